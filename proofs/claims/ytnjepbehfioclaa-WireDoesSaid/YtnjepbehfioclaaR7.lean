import Derived.Test.YtnjepbehfioclaaR6
namespace Go.Proofs.Ytnjepbehfioclaa
open Go.RowKit
attribute [local go_sem] bz_size bz_toList run_store_float
set_option maxRecDepth 100000

theorem tableR_some (g : Nat) (b : List UInt8) (t : List Fl) (ht : tabR b = some t) (w : World) (hR : RdB g w b) (hl : b.length ≤ 65536) :
    Calls Try.prog 29 #[.pointer (some ⟨g, 0, none⟩)] w fun e w' => ∃ A c, e = .returned (.slice A t.length c) ∧ w'.ownsRow w.heap.size 26 6 (.slice A t.length c) t.length (t.flatMap fc) ∧ But [g] w w' :=
  (tableR_any g b w hR hl).mono fun e w' ⟨hb, h⟩ => by
    rcases h with ⟨A, c, t', h1, h2, h3⟩ | ⟨h1, _⟩
    · rw [ht] at h1
      injection h1 with h1
      subst h1
      exact ⟨A, c, h2, h3, hb⟩
    · rw [ht] at h1; cases h1
theorem tableR_none (g : Nat) (b : List UInt8) (ht : tabR b = none) (w : World) (hR : RdB g w b) (hl : b.length ≤ 65536) :
    Calls Try.prog 29 #[.pointer (some ⟨g, 0, none⟩)] w fun e w' => e = stopE ∧ But [g] w w' :=
  (tableR_any g b w hR hl).mono fun e w' ⟨hb, h⟩ => by
    rcases h with ⟨A, c, t', h1, _⟩ | ⟨_, h2⟩
    · rw [ht] at h1; cases h1
    · exact ⟨h2, hb⟩
/-- The three boxes. -/
abbrev boxes (w : World) (v : Value) : World := ((w.alloc (.cells #[.slice none 0 0] 22)).alloc (.cells #[.int .i64 0] 30)).alloc (.cells #[v] 55)
theorem boxes_rd {w : World} {lo hi : Nat} {A : Option Addr} {c : Nat} {b : List UInt8} (h : Bs lo hi w (.slice A b.length c) b) (hhi : hi ≤ w.heap.size) : RdB (w.heap.size + 2) (boxes w (.slice A b.length c)) b := by
  refine ⟨A, c, Blk.new (by simp only [World.size_alloc]), ?_⟩
  have hb : Below w.heap.size w (boxes w (.slice A b.length c)) := bl_alloc (bl_alloc (bl_alloc (Below.refl _ _) _) _) _
  exact Rd.mono (Rd.below h hb hhi) (Nat.zero_le _) (by omega)
theorem own_alloc {w : World} {base n size : Nat} {e : TypeId} {v : Value} {xs : List Value} (h : w.ownsRow base e size v n xs) (o : Obj) : (w.alloc o).ownsRow base e size v n xs := World.ownsRow.alloc h o
theorem from_results {tmps : Array Value} {W : World} {g2 g3 : Nat} {v : Value} {z : Int} (h2 : tmps.getD 2 undef = .pointer (some ⟨g2, 0, none⟩)) (h3 : tmps.getD 3 undef = .pointer (some ⟨g3, 0, none⟩)) {A : Option Addr} {n c : Nat} (hv : v = .slice A n c) (b2 : Blk W g2 22 #[v]) (b3 : Blk W g3 30 #[.int .i64 z]) :
    (results Try.f16 tmps).run Try.prog W = .ok (.tuple #[v, .int .i64 z]) W := by
  subst hv
  have x2 : W.cell? ⟨g2, 0, none⟩ = some (.slice A n c) := b2.cell 0
  have x3 : W.cell? ⟨g3, 0, none⟩ = some (.int .i64 z) := b3.cell 0
  rw [Array.getD_eq_getD_getElem?] at h2 h3
  simp [results, Try.results16, go_sem, h2, h3, x2, x3]
set_option maxHeartbeats 2000000 in
theorem From_any (lo hi : Nat) (v : Value) (b : List UInt8) (w : World) (h : Bs lo hi w v b) (hhi : hi ≤ w.heap.size) :
    Calls Try.prog 16 #[v] w fun e w' => ∃ A c, e = .returned (.tuple #[.slice A (fromL b).length c, .int .i64 (fromE b)]) ∧ w'.ownsRow w.heap.size 26 6 (.slice A (fromL b).length c) (fromL b).length ((fromL b).flatMap fc) ∧ Below w.heap.size w w' := by
  have hmf : ∀ (fn : Fn) (first cap : Array Value) (w : World), (Instr.makeFunc fn first cap).run Try.prog w = .ok (.func fn first cap) w := fun _ _ _ _ => rfl
  obtain ⟨A, c, rfl, h1, h2, _⟩ := h.openB
  by_cases hl : 65536 < b.length
  · have e1 : fromL b = [] := by unfold fromL; rw [if_pos hl]
    have e2 : fromE b = 3 := by unfold fromE; rw [if_pos hl]
    have d1 : (65536 : Int) < (b.length : Int) := by omega
    rw [e1, e2]
    clear h
    go_enter_defers Try.func16, Try.ntmps16
    go_wp2
    have b2 : Blk ((w.alloc (.cells #[.slice none 0 0] 22)).alloc (.cells #[.int .i64 3] 30)) w.heap.size 22 #[.slice none 0 0] := (Blk.new rfl).alloc _
    have b3 : Blk ((w.alloc (.cells #[.slice none 0 0] 22)).alloc (.cells #[.int .i64 3] 30)) (w.heap.size + 1) 30 #[.int .i64 3] := Blk.new (by simp only [World.size_alloc])
    exact ⟨_, from_results rfl rfl rfl b2 b3, none, 0, rfl, World.ownsRow_nil _ _ _ _, bl_alloc (bl_alloc (Below.refl _ _) _) _⟩
  · have hl' : b.length ≤ 65536 := by omega
    have d1 : ¬ (65536 : Int) < (b.length : Int) := by omega
    have hR := boxes_rd h hhi
    cases ht : tabR b with
    | none =>
      have e1 : fromL b = [] := by unfold fromL; rw [if_neg hl, ht]; rfl
      have e2 : fromE b = 2 := by unfold fromE; rw [if_neg hl, ht]; rfl
      have hT := tableR_none _ b ht _ hR hl'
      rw [e1, e2]
      have b2 : Blk (boxes w (.slice A b.length c)) w.heap.size 22 #[.slice none 0 0] := ((Blk.new rfl).alloc _).alloc _
      have b3 : Blk (boxes w (.slice A b.length c)) (w.heap.size + 1) 30 #[.int .i64 0] := (Blk.new (by simp only [World.size_alloc])).alloc _
      have B0 : Below w.heap.size w (boxes w (.slice A b.length c)) := bl_alloc (bl_alloc (bl_alloc (Below.refl _ _) _) _) _
      replace hT := hide hT; replace hl' := hide hl'; replace b2 := hide b2; replace b3 := hide b3; replace B0 := hide B0
      clear h hR hl ht
      go_enter_defers Try.func16, Try.ntmps16
      go_wp2_with (first
        | (go_at_call 29; refine (unhide hT).mono ?_; rintro e w1 ⟨rfl, K1⟩; replace K1 := hide K1)
        | fail)
      have b2' := (unhide b2).but (unhide K1) (by simp)
      have b3' := (unhide b3).but (unhide K1) (by simp)
      have B1 : Below w.heap.size w w1 := (unhide B0).trans ((unhide K1).below (B := w.heap.size) (by simp) (unhide B0).size)
      refine leaves_cons (f := 28) (args := #[.pointer (some ⟨w.heap.size, 0, none⟩), .pointer (some ⟨w.heap.size + 1, 0, none⟩)]) (by simp) (by simp [go_sem]) ?_
      refine (catch_stop w.heap.size (w.heap.size + 1) [] w1 _ _ (b2'.cell 0) (b2'.frozen 0) (b3'.cell 0) (b3'.frozen 0) (by omega) (by omega) b2'.lt b3'.lt).mono ?_
      rintro e u' w'' ⟨rfl, rfl, rfl⟩
      have y2 := ((b2'.set 0 (.slice none 0 0)).far (p := ⟨w.heap.size + 1, 0, none⟩) (by simp only []; omega) (.int .i64 2)).alloc (.cells #[] 52)
      have y3 := ((b3'.far (p := ⟨w.heap.size, 0, none⟩) (by simp only []; omega) (.slice none 0 0)).set 0 (.int .i64 2)).alloc (.cells #[] 52)
      exact ⟨_, from_results rfl rfl rfl y2 y3, none, 0, rfl, World.ownsRow_nil _ _ _ _, bl_alloc ((B1.setCell (p := ⟨w.heap.size, 0, none⟩) (Nat.le_refl _) _).setCell (p := ⟨w.heap.size + 1, 0, none⟩) (Nat.le_succ _) _) _⟩
    | some t =>
      have e1 : fromL b = t := by unfold fromL; rw [if_neg hl, ht]; rfl
      have e2 : fromE b = 0 := by unfold fromE; rw [if_neg hl, ht]; rfl
      have hT := tableR_some _ b t ht _ hR hl'
      rw [e1, e2]
      have b2 : Blk (boxes w (.slice A b.length c)) w.heap.size 22 #[.slice none 0 0] := ((Blk.new rfl).alloc _).alloc _
      have b3 : Blk (boxes w (.slice A b.length c)) (w.heap.size + 1) 30 #[.int .i64 0] := (Blk.new (by simp only [World.size_alloc])).alloc _
      have B0 : Below w.heap.size w (boxes w (.slice A b.length c)) := bl_alloc (bl_alloc (bl_alloc (Below.refl _ _) _) _) _
      replace hT := hide hT; replace hl' := hide hl'; replace b2 := hide b2; replace b3 := hide b3; replace B0 := hide B0
      clear h hR hl ht
      go_enter_defers Try.func16, Try.ntmps16
      go_wp2_with (first
        | (go_at_call 29; refine (unhide hT).mono ?_; rintro e w1 ⟨A1, c1, rfl, o1, K1⟩
           have b2' := (unhide b2).but K1 (by simp)
           have b3' := (unhide b3).but K1 (by simp)
           have x2 := b2'.cell 0
           have x3 := b3'.cell 0
           have f2 := b2'.frozen 0
           have f3 := b3'.frozen 0
           replace K1 := hide K1; replace o1 := hide o1; replace b2' := hide b2'; replace b3' := hide b3')
        | fail)
      have B1 : Below w.heap.size w w1 := (unhide B0).trans ((unhide K1).below (B := w.heap.size) (by simp) (unhide B0).size)
      refine leaves_cons (f := 28) (args := #[.pointer (some ⟨w.heap.size, 0, none⟩), .pointer (some ⟨w.heap.size + 1, 0, none⟩)]) (by simp) (by simp [go_sem]) ?_
      refine (catch_idle w.heap.size (w.heap.size + 1) _).mono ?_
      rintro e u' w'' ⟨rfl, rfl, rfl⟩
      have y2 := (((unhide b2').set 0 (.slice A1 t.length c1)).far (p := ⟨w.heap.size + 1, 0, none⟩) (by simp only []; omega) (.int .i64 0)).alloc (.cells #[] 52)
      have y3 := (((unhide b3').far (p := ⟨w.heap.size, 0, none⟩) (by simp only []; omega) (.slice A1 t.length c1)).set 0 (.int .i64 0)).alloc (.cells #[] 52)
      have o2 := own_far (ownsRow_mono (base' := w.heap.size) (unhide o1) (unhide B0).size) (unhide b2') (by decide) 0 (.slice A1 t.length c1)
      have o3 := own_far o2 ((unhide b3').far (p := ⟨w.heap.size, 0, none⟩) (by simp only []; omega) (.slice A1 t.length c1)) (by decide) 0 (.int .i64 0)
      exact ⟨_, from_results rfl rfl rfl y2 y3, A1, c1, rfl, own_alloc o3 _, bl_alloc ((B1.setCell (p := ⟨w.heap.size, 0, none⟩) (Nat.le_refl _) _).setCell (p := ⟨w.heap.size + 1, 0, none⟩) (Nat.le_succ _) _) _⟩
end Go.Proofs.Ytnjepbehfioclaa
