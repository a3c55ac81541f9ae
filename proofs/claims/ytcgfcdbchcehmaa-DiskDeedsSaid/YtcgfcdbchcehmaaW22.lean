import Derived.Test.YtcgfcdbchcehmaaW21
namespace Go.Proofs.Ytcgfcdbchcehmaa
open Go.RowKit

set_option maxRecDepth 100000 in
set_option maxHeartbeats 8000000 in
theorem last_go (A A' A2 A3 : Option Addr) (c c' c2 c3 : Nat) (d : Dk) (at_ : Int) (b : List UInt8) (other : Int) (ms : List UInt8) (w : World)
    (h : Dsk 0 w.heap.size w (.agg #[.slice A d.dry.length c, .slice A' d.wet.length c', .int .i64 d.left]) d) (hbs : Bs 0 w.heap.size w (.slice A2 b.length c2) b) (hm : Bs 0 w.heap.size w (.slice A3 ms.length c3) ms)
    (hf : fewB d = true) (hb100 : b.length ≤ 100) (hl : ms.length ≤ 300) (hq : wrB d at_ b.length = true) (hl0 : d.left ≠ 0) :
    Calls Try.prog 5 #[.agg #[.slice A d.dry.length c, .slice A' d.wet.length c', .int .i64 d.left], .int .i64 at_, .slice A2 b.length c2, .int .i64 other, .slice A3 ms.length c3] w fun e w' => e = .returned (.bool true) ∧ Below w.heap.size w w' := by
  obtain ⟨fl, fw60⟩ := few_sixty hf
  have fw : d.wet.length ≤ 1000 := by omega
  have hfw : ∀ W, Below w.heap.size w W → Calls Try.prog 10 #[.agg #[.slice A d.dry.length c, .slice A' d.wet.length c', .int .i64 d.left]] W fun e w' => e = .returned (.bool true) ∧ Below W.heap.size W w' :=
    fun W hB => by have := few_any 0 _ d W ((h.below hB (Nat.le_refl _)).mono (Nat.le_refl _) hB.size); rwa [hf] at this
  have hl' : ¬ (300 : Int) < (ms.length : Int) := by omega
  have hl2' : ¬ (100 : Int) < (b.length : Int) := by omega
  have hqq := hq
  simp only [wrB, Bool.and_eq_true, decide_eq_true_eq] at hqq
  obtain ⟨⟨hok, hh⟩, h32⟩ := hqq
  obtain ⟨_, _, _, hlv, hr, _⟩ := okD_parts hok
  obtain ⟨WD, hWD⟩ : ∃ x : Dk, x = ⟨d.dry, wrPg d.wet at_ b, less d.left⟩ := ⟨_, rfl⟩
  have hw : wrD d at_ b = (WD, 0) := by rw [hWD]; simp [wrD, hq, hl0]
  have okW : okD WD = true := by rw [hWD]; exact okD_wr hok hh h32 (less_left hlv hl0)
  have fl1 : WD.dry.length ≤ 1000000 := by rw [hWD]; exact fl
  have fw1 : WD.wet.length ≤ 1000 := by rw [hWD]; have := wrPg_len d.wet at_ b; simp only []; omega
  have hrW : rdD WD at_ = (b, 0) := by
    have hs : sectorOf WD at_ = b := by rw [hWD]; unfold sectorOf; rw [find_wr_same hr]
    have hh' : hasB WD.dry.length at_ = true := by rw [hWD]; exact hh
    simp [rdD, okW, hh', hs]
  obtain ⟨g5, hg5⟩ : ∃ g, g = (rdD d other).2 := ⟨_, rfl⟩
  have hg6 : (rdD WD other).2 = g5 := by rw [hg5]; unfold rdD; rw [okW, hok, hWD]; simp only [Bool.true_and]; split <;> rfl
  have hg01 : g5 = 0 ∨ g5 = 1 := by rw [hg5]; unfold rdD; split <;> simp
  have hXX : other ≠ at_ → (rdD WD other).1 = (rdD d other).1 := by
    intro hne
    unfold rdD
    rw [okW, hok, hWD]
    simp only [Bool.true_and]
    split
    · unfold sectorOf
      simp only []
      rw [find_wr_other hr at_ other b hne]
    · rfl
  obtain ⟨SD, hSD⟩ : ∃ x, x = (synD WD).1 := ⟨_, rfl⟩
  obtain ⟨E7, hE7⟩ : ∃ x, x = (synD WD).2 := ⟨_, rfl⟩
  have hS1 := hSD.symm
  have hS2 := hE7.symm
  have hwr : ∀ W, Below w.heap.size w W → Calls Try.prog 12 #[.agg #[.slice A d.dry.length c, .slice A' d.wet.length c', .int .i64 d.left], .int .i64 at_, .slice A2 b.length c2] W fun e w' => ∃ v', e = .returned (.tuple #[v', .int .i64 0]) ∧ Dsk W.heap.size w'.heap.size w' v' WD ∧ Below W.heap.size W w' :=
    fun W hB => (write_any 0 _ _ d at_ b W ((h.below hB (Nat.le_refl _)).mono (Nat.le_refl _) hB.size) ((hbs.below hB (Nat.le_refl _)).mono (Nat.le_refl _) hB.size) fl fw).mono fun e w' ⟨v', E, h1, h2, h3, h4⟩ => by
      subst h3
      rw [hw] at h1 h2
      exact ⟨v', h1, h2, h4⟩
  have hrd : ∀ W, Below w.heap.size w W → Calls Try.prog 14 #[.agg #[.slice A d.dry.length c, .slice A' d.wet.length c', .int .i64 d.left], .int .i64 other] W fun e w' => ∃ v', e = .returned (.tuple #[v', .int .i64 g5]) ∧ Bs W.heap.size w'.heap.size w' v' (rdD d other).1 ∧ Below W.heap.size W w' :=
    fun W hB => (read_any 0 _ d other W ((h.below hB (Nat.le_refl _)).mono (Nat.le_refl _) hB.size) fl fw).mono fun e w' ⟨v', E, h1, h2, h3, h4⟩ => by
      subst h3
      rw [← hg5] at h1
      exact ⟨v', h1, h2, h4⟩
  have hsb : ∀ W u, Below w.heap.size w W → ∀ {lo}, Bs lo W.heap.size W u b → Calls Try.prog 23 #[u, .slice A2 b.length c2] W fun e w' => e = .returned (.bool true) ∧ W = w' := fun W u hB lo hu => by
    have := sameb_any _ _ _ _ _ _ _ _ W hu (hbs.below hB (Nat.le_refl _))
    rwa [decide_eq_true rfl] at this
  have key : (E7 = 11 ∧ WD.left = 0) ∨ (E7 = 0 ∧ WD.left ≠ 0 ∧ SD.wet.length = 0 ∧ SD.dry.length ≤ 1000000 ∧ (crD SD ms).2 = 0 ∧ (crD SD ms).1.left = -1 ∧ (crD SD ms).1.dry.length ≤ 1000000 ∧ (crD SD ms).1.wet.length ≤ 1000 ∧ rdD (crD SD ms).1 at_ = (b, 0)) := by
    rw [hSD, hE7]
    by_cases h0 : WD.left = 0
    · exact .inl ⟨by simp [synD, okW, h0], h0⟩
    · right
      have hsy : synD WD = (⟨syAt WD.dry WD.wet WD.wet.length, [], less WD.left⟩, 0) := by simp [synD, okW, h0]
      rw [hsy]
      obtain ⟨z1, z2, z3, z4, _, _⟩ := okD_parts okW
      have hlen := syAt_length WD.dry WD.wet WD.wet.length (okD_ok okW).2
      have okS : okD ⟨syAt WD.dry WD.wet WD.wet.length, [], less WD.left⟩ = true := okD_make (by rw [hlen]; exact z1) (by rw [hlen]; exact z2) (by rw [hlen]; exact z3) (less_left z4 h0) (fun i j hi => by simp at hi) (fun q hq => by cases hq)
      have hcr : crD ⟨syAt WD.dry WD.wet WD.wet.length, [], less WD.left⟩ ms = (⟨syAt WD.dry WD.wet WD.wet.length, [], -1⟩, 0) := by simp [crD, okS, crAt]
      have okC := ok_bare okS _ rfl
      have hh' : hasB (syAt WD.dry WD.wet WD.wet.length).length at_ = true := by rw [hlen, hWD]; exact hh
      have hsec : sectorOf ⟨syAt WD.dry WD.wet WD.wet.length, [], -1⟩ at_ = b := by
        rw [sector_bare]
        have hmem : (⟨at_, b⟩ : Pg) ∈ WD.wet := by rw [hWD]; exact mem_wrPg.2 (.inr rfl)
        have hsec := sync_sector (q := ⟨at_, b⟩) (okD_ok okW) hmem
        simp only [] at hsec ⊢
        exact hsec
      rw [hcr]
      refine ⟨rfl, h0, rfl, by simp only [hlen]; exact fl1, rfl, rfl, by simp only [hlen]; exact fl1, by simp, ?_⟩
      simp [rdD, okC, hh', hsec]
  replace hfw := hide hfw; replace hwr := hide hwr; replace hrd := hide hrd; replace hsb := hide hsb; replace hm := hide hm; replace hrW := hide hrW; replace hg6 := hide hg6; replace fl1 := hide fl1; replace fw1 := hide fw1; replace hS1 := hide hS1; replace hS2 := hide hS2; replace hg5 := hide hg5; replace hSD := hide hSD; replace hE7 := hide hE7; replace hWD := hide hWD; replace h32 := hide h32
  clear h hbs hf hq hw fl fw fw60 hok hh hlv hr okW
  rcases key with ⟨rfl, hlW⟩ | ⟨rfl, hlW, hSw, fl2, hC2, hCl, fl3, fw3, hrC⟩
  · have hlb : (WD.left == 0) = true := by rw [hlW]; rfl
    clear hlW
    rcases hg01 with rfl | rfl
    · by_cases hoa : other = at_
      · subst hoa
        clear hXX
        go_enter Try.func5, Try.ntmps5
        go_wp2_with (first
          | (go_at_call 9; refine (live_any _).mono ?_; rintro e w1 ⟨rfl, hb1⟩
             have HB1 : Below w.heap.size w w1 := bl_call (by (repeat (first | with_reducible exact Below.refl _ _ | with_reducible assumption | with_reducible refine Below.drew ?_ | with_reducible refine bl_alloc ?_ _ | with_reducible refine bl_call ?_ (by assumption) | (focus (with_reducible refine Below.setCell ?_ ?_ _; rotate_left; focus (first | omega | (simp <;> omega)))) | fail))) hb1
             have kb1 := hide (Blk.below (g := w.heap.size) (t := 25) (cs := #[.slice A d.dry.length c, .slice A' d.wet.length c', .int .i64 d.left]) (Blk.new rfl) hb1 (by simp))
             have ykb1 : w.heap.size < w1.heap.size := (unhide kb1).lt
             have tkb10 : w1.cell? ⟨w.heap.size, 0, none⟩ = some (.slice A d.dry.length c) := ((unhide kb1).cell 0).trans rfl
             have tkb11 : w1.cell? ⟨w.heap.size, 1, none⟩ = some (.slice A' d.wet.length c') := ((unhide kb1).cell 1).trans rfl
             have tkb12 : w1.cell? ⟨w.heap.size, 2, none⟩ = some (.int .i64 d.left) := ((unhide kb1).cell 2).trans rfl)
          | (go_at_call 10; refine (unhide hfw _ HB1).mono ?_; rintro e w2 ⟨rfl, hb2⟩
             have HB2 : Below w.heap.size w w2 := bl_call HB1 hb2
             have kb2 := hide (Blk.below (unhide kb1) hb2 ykb1)
             have ykb2 : w.heap.size < w2.heap.size := (unhide kb2).lt
             have tkb20 : w2.cell? ⟨w.heap.size, 0, none⟩ = some (.slice A d.dry.length c) := ((unhide kb2).cell 0).trans rfl
             have tkb21 : w2.cell? ⟨w.heap.size, 1, none⟩ = some (.slice A' d.wet.length c') := ((unhide kb2).cell 1).trans rfl
             have tkb22 : w2.cell? ⟨w.heap.size, 2, none⟩ = some (.int .i64 d.left) := ((unhide kb2).cell 2).trans rfl
             clear tkb10 tkb11 tkb12)
          | (go_at_call 12; refine (unhide hwr _ HB2).mono ?_; rintro e w3 ⟨v3, rfl, hd3, hb3⟩
             have HB3 : Below w.heap.size w w3 := bl_call HB2 hb3
             obtain ⟨Ax, cx, Ay, cy, rfl⟩ := hd3.form
             have kb3 := hide (Blk.below (unhide kb2) hb3 ykb2)
             have ykb3 : w.heap.size < w3.heap.size := (unhide kb3).lt
             have tkb30 : w3.cell? ⟨w.heap.size, 0, none⟩ = some (.slice A d.dry.length c) := ((unhide kb3).cell 0).trans rfl
             have tkb31 : w3.cell? ⟨w.heap.size, 1, none⟩ = some (.slice A' d.wet.length c') := ((unhide kb3).cell 1).trans rfl
             have tkb32 : w3.cell? ⟨w.heap.size, 2, none⟩ = some (.int .i64 d.left) := ((unhide kb3).cell 2).trans rfl
             clear tkb20 tkb21 tkb22
             replace hd3 := hide hd3
             have tok1 : True := trivial)
          | (go_at_call 14; have _t := tok1; refine (read_any 0 _ WD _ _ ((((unhide hd3).below (bl_alloc (Below.refl _ _) _) (Nat.le_refl _))).mono (Nat.zero_le _) (by simp)) (unhide fl1) (unhide fw1)).mono ?_; rintro e w4 ⟨v4, E, rfl, hx4, hE4, hb4⟩; clear tok1 _t
             rw [unhide hrW] at hx4 hE4
             obtain rfl : E = 0 := hE4
             have HB4 : Below w.heap.size w w4 := bl_call (bl_alloc HB3 _) hb4
             have kb4 := hide (Blk.below ((unhide kb3).alloc _) hb4 (by simp; omega))
             have kw4 := hide (Blk.below (g := w3.heap.size) (t := 25) (cs := #[.slice Ax WD.dry.length cx, .slice Ay WD.wet.length cy, .int .i64 WD.left]) (Blk.new rfl) hb4 (by simp))
             have ykb4 : w.heap.size < w4.heap.size := (unhide kb4).lt
             have tkb40 : w4.cell? ⟨w.heap.size, 0, none⟩ = some (.slice A d.dry.length c) := ((unhide kb4).cell 0).trans rfl
             have tkb41 : w4.cell? ⟨w.heap.size, 1, none⟩ = some (.slice A' d.wet.length c') := ((unhide kb4).cell 1).trans rfl
             have tkb42 : w4.cell? ⟨w.heap.size, 2, none⟩ = some (.int .i64 d.left) := ((unhide kb4).cell 2).trans rfl
             have ykw4 : w3.heap.size < w4.heap.size := (unhide kw4).lt
             have tkw40 : w4.cell? ⟨w3.heap.size, 0, none⟩ = some (.slice Ax WD.dry.length cx) := ((unhide kw4).cell 0).trans rfl
             have tkw41 : w4.cell? ⟨w3.heap.size, 1, none⟩ = some (.slice Ay WD.wet.length cy) := ((unhide kw4).cell 1).trans rfl
             have tkw42 : w4.cell? ⟨w3.heap.size, 2, none⟩ = some (.int .i64 WD.left) := ((unhide kw4).cell 2).trans rfl
             clear tkb30 tkb31 tkb32
             have hd4 := hide (((unhide hd3).below (bl_call (bl_alloc (Below.refl _ _) _) hb4) (Nat.le_refl _)).mono (Nat.zero_le _) (Nat.le_of_lt ykw4))
             obtain ⟨A4, c4, rfl, hx4'⟩ := id hx4
             clear hx4'
             replace hx4 := hide hx4
             have tok2 : True := trivial)
          | (go_at_call 23; have _t := tok2; refine (unhide hsb _ _ HB4 (unhide hx4)).mono ?_; rintro e w4' ⟨rfl, rfl⟩; clear tok2 _t
             have tok3 : True := trivial)
          | (go_at_call 14; have _t := tok3; refine (unhide hrd _ HB4).mono ?_; rintro e w5 ⟨v5, rfl, hx5, hb5⟩; clear tok3 _t
             have HB5 : Below w.heap.size w w5 := bl_call HB4 hb5
             have kb5 := hide (Blk.below (unhide kb4) hb5 ykb4)
             have kw5 := hide (Blk.below (unhide kw4) hb5 ykw4)
             have ykb5 : w.heap.size < w5.heap.size := (unhide kb5).lt
             have tkb50 : w5.cell? ⟨w.heap.size, 0, none⟩ = some (.slice A d.dry.length c) := ((unhide kb5).cell 0).trans rfl
             have tkb51 : w5.cell? ⟨w.heap.size, 1, none⟩ = some (.slice A' d.wet.length c') := ((unhide kb5).cell 1).trans rfl
             have tkb52 : w5.cell? ⟨w.heap.size, 2, none⟩ = some (.int .i64 d.left) := ((unhide kb5).cell 2).trans rfl
             have ykw5 : w3.heap.size < w5.heap.size := (unhide kw5).lt
             have tkw50 : w5.cell? ⟨w3.heap.size, 0, none⟩ = some (.slice Ax WD.dry.length cx) := ((unhide kw5).cell 0).trans rfl
             have tkw51 : w5.cell? ⟨w3.heap.size, 1, none⟩ = some (.slice Ay WD.wet.length cy) := ((unhide kw5).cell 1).trans rfl
             have tkw52 : w5.cell? ⟨w3.heap.size, 2, none⟩ = some (.int .i64 WD.left) := ((unhide kw5).cell 2).trans rfl
             clear tkb40 tkb41 tkb42 tkw40 tkw41 tkw42
             have hd5 := hide (((unhide hd4).below hb5 (Nat.le_refl _)).mono (Nat.zero_le _) hb5.size)
             obtain ⟨A5, c5, rfl, hx5'⟩ := id hx5
             clear hx5'
             replace hx5 := hide hx5
             have tok4 : True := trivial)
          | (go_at_call 14; have _t := tok4; refine (read_any 0 _ WD _ _ (unhide hd5) (unhide fl1) (unhide fw1)).mono ?_; rintro e w6 ⟨v6, E, rfl, hx6, hE6, hb6⟩; clear tok4 _t
             obtain rfl := hE6.trans (unhide hg6)
             clear hE6
             have HB6 : Below w.heap.size w w6 := bl_call HB5 hb6
             have kb6 := hide (Blk.below (unhide kb5) hb6 ykb5)
             have kw6 := hide (Blk.below (unhide kw5) hb6 ykw5)
             have ykb6 : w.heap.size < w6.heap.size := (unhide kb6).lt
             have tkb60 : w6.cell? ⟨w.heap.size, 0, none⟩ = some (.slice A d.dry.length c) := ((unhide kb6).cell 0).trans rfl
             have tkb61 : w6.cell? ⟨w.heap.size, 1, none⟩ = some (.slice A' d.wet.length c') := ((unhide kb6).cell 1).trans rfl
             have tkb62 : w6.cell? ⟨w.heap.size, 2, none⟩ = some (.int .i64 d.left) := ((unhide kb6).cell 2).trans rfl
             have ykw6 : w3.heap.size < w6.heap.size := (unhide kw6).lt
             have tkw60 : w6.cell? ⟨w3.heap.size, 0, none⟩ = some (.slice Ax WD.dry.length cx) := ((unhide kw6).cell 0).trans rfl
             have tkw61 : w6.cell? ⟨w3.heap.size, 1, none⟩ = some (.slice Ay WD.wet.length cy) := ((unhide kw6).cell 1).trans rfl
             have tkw62 : w6.cell? ⟨w3.heap.size, 2, none⟩ = some (.int .i64 WD.left) := ((unhide kw6).cell 2).trans rfl
             clear tkb50 tkb51 tkb52 tkw50 tkw51 tkw52
             have hd6 := hide (((unhide hd5).below hb6 (Nat.le_refl _)).mono (Nat.zero_le _) hb6.size)
             obtain ⟨A6, c6, rfl, hx6'⟩ := id hx6
             clear hx6'
             have hx5b := hide (((unhide hx5).below hb6 (Nat.le_refl _)).mono (Nat.zero_le _) hb6.size)
             replace hx6 := hide hx6
             have tok5 : True := trivial)
          | (go_at_call 16; refine (sync_any 0 _ WD _ (unhide hd6) (unhide fl1) (unhide fw1)).mono ?_; rintro e w7 ⟨v7, E, rfl, hd7, hE7, hb7⟩
             obtain rfl := hE7.trans (unhide hS2)
             clear hE7
             have HB7 : Below w.heap.size w w7 := bl_call HB6 hb7
             rw [unhide hS1] at hd7
             obtain ⟨Au, cu, Av, cv, rfl⟩ := hd7.form
             have kb7 := hide (Blk.below (unhide kb6) hb7 ykb6)
             have kw7 := hide (Blk.below (unhide kw6) hb7 ykw6)
             have ykb7 : w.heap.size < w7.heap.size := (unhide kb7).lt
             have tkb70 : w7.cell? ⟨w.heap.size, 0, none⟩ = some (.slice A d.dry.length c) := ((unhide kb7).cell 0).trans rfl
             have tkb71 : w7.cell? ⟨w.heap.size, 1, none⟩ = some (.slice A' d.wet.length c') := ((unhide kb7).cell 1).trans rfl
             have tkb72 : w7.cell? ⟨w.heap.size, 2, none⟩ = some (.int .i64 d.left) := ((unhide kb7).cell 2).trans rfl
             have ykw7 : w3.heap.size < w7.heap.size := (unhide kw7).lt
             have tkw70 : w7.cell? ⟨w3.heap.size, 0, none⟩ = some (.slice Ax WD.dry.length cx) := ((unhide kw7).cell 0).trans rfl
             have tkw71 : w7.cell? ⟨w3.heap.size, 1, none⟩ = some (.slice Ay WD.wet.length cy) := ((unhide kw7).cell 1).trans rfl
             have tkw72 : w7.cell? ⟨w3.heap.size, 2, none⟩ = some (.int .i64 WD.left) := ((unhide kw7).cell 2).trans rfl
             clear tkb60 tkb61 tkb62 tkw60 tkw61 tkw62
             replace hd7 := hide hd7)
          | fail)
        go_ret
        exact ⟨rfl, by (repeat (first | with_reducible exact Below.refl _ _ | with_reducible assumption | with_reducible refine Below.drew ?_ | with_reducible refine bl_alloc ?_ _ | with_reducible refine bl_call ?_ (by assumption) | (focus (with_reducible refine Below.setCell ?_ ?_ _; rotate_left; focus (first | omega | (simp <;> omega)))) | fail))⟩
      · have hsm := hide (show decide ((rdD d other).1 = (rdD WD other).1) = true by rw [hXX hoa]; simp)
        clear hXX
        go_enter Try.func5, Try.ntmps5
        go_wp2_with (first
          | (go_at_call 9; refine (live_any _).mono ?_; rintro e w1 ⟨rfl, hb1⟩
             have HB1 : Below w.heap.size w w1 := bl_call (by (repeat (first | with_reducible exact Below.refl _ _ | with_reducible assumption | with_reducible refine Below.drew ?_ | with_reducible refine bl_alloc ?_ _ | with_reducible refine bl_call ?_ (by assumption) | (focus (with_reducible refine Below.setCell ?_ ?_ _; rotate_left; focus (first | omega | (simp <;> omega)))) | fail))) hb1
             have kb1 := hide (Blk.below (g := w.heap.size) (t := 25) (cs := #[.slice A d.dry.length c, .slice A' d.wet.length c', .int .i64 d.left]) (Blk.new rfl) hb1 (by simp))
             have ykb1 : w.heap.size < w1.heap.size := (unhide kb1).lt
             have tkb10 : w1.cell? ⟨w.heap.size, 0, none⟩ = some (.slice A d.dry.length c) := ((unhide kb1).cell 0).trans rfl
             have tkb11 : w1.cell? ⟨w.heap.size, 1, none⟩ = some (.slice A' d.wet.length c') := ((unhide kb1).cell 1).trans rfl
             have tkb12 : w1.cell? ⟨w.heap.size, 2, none⟩ = some (.int .i64 d.left) := ((unhide kb1).cell 2).trans rfl)
          | (go_at_call 10; refine (unhide hfw _ HB1).mono ?_; rintro e w2 ⟨rfl, hb2⟩
             have HB2 : Below w.heap.size w w2 := bl_call HB1 hb2
             have kb2 := hide (Blk.below (unhide kb1) hb2 ykb1)
             have ykb2 : w.heap.size < w2.heap.size := (unhide kb2).lt
             have tkb20 : w2.cell? ⟨w.heap.size, 0, none⟩ = some (.slice A d.dry.length c) := ((unhide kb2).cell 0).trans rfl
             have tkb21 : w2.cell? ⟨w.heap.size, 1, none⟩ = some (.slice A' d.wet.length c') := ((unhide kb2).cell 1).trans rfl
             have tkb22 : w2.cell? ⟨w.heap.size, 2, none⟩ = some (.int .i64 d.left) := ((unhide kb2).cell 2).trans rfl
             clear tkb10 tkb11 tkb12)
          | (go_at_call 12; refine (unhide hwr _ HB2).mono ?_; rintro e w3 ⟨v3, rfl, hd3, hb3⟩
             have HB3 : Below w.heap.size w w3 := bl_call HB2 hb3
             obtain ⟨Ax, cx, Ay, cy, rfl⟩ := hd3.form
             have kb3 := hide (Blk.below (unhide kb2) hb3 ykb2)
             have ykb3 : w.heap.size < w3.heap.size := (unhide kb3).lt
             have tkb30 : w3.cell? ⟨w.heap.size, 0, none⟩ = some (.slice A d.dry.length c) := ((unhide kb3).cell 0).trans rfl
             have tkb31 : w3.cell? ⟨w.heap.size, 1, none⟩ = some (.slice A' d.wet.length c') := ((unhide kb3).cell 1).trans rfl
             have tkb32 : w3.cell? ⟨w.heap.size, 2, none⟩ = some (.int .i64 d.left) := ((unhide kb3).cell 2).trans rfl
             clear tkb20 tkb21 tkb22
             replace hd3 := hide hd3
             have tok1 : True := trivial)
          | (go_at_call 14; have _t := tok1; refine (read_any 0 _ WD _ _ ((((unhide hd3).below (bl_alloc (Below.refl _ _) _) (Nat.le_refl _))).mono (Nat.zero_le _) (by simp)) (unhide fl1) (unhide fw1)).mono ?_; rintro e w4 ⟨v4, E, rfl, hx4, hE4, hb4⟩; clear tok1 _t
             rw [unhide hrW] at hx4 hE4
             obtain rfl : E = 0 := hE4
             have HB4 : Below w.heap.size w w4 := bl_call (bl_alloc HB3 _) hb4
             have kb4 := hide (Blk.below ((unhide kb3).alloc _) hb4 (by simp; omega))
             have kw4 := hide (Blk.below (g := w3.heap.size) (t := 25) (cs := #[.slice Ax WD.dry.length cx, .slice Ay WD.wet.length cy, .int .i64 WD.left]) (Blk.new rfl) hb4 (by simp))
             have ykb4 : w.heap.size < w4.heap.size := (unhide kb4).lt
             have tkb40 : w4.cell? ⟨w.heap.size, 0, none⟩ = some (.slice A d.dry.length c) := ((unhide kb4).cell 0).trans rfl
             have tkb41 : w4.cell? ⟨w.heap.size, 1, none⟩ = some (.slice A' d.wet.length c') := ((unhide kb4).cell 1).trans rfl
             have tkb42 : w4.cell? ⟨w.heap.size, 2, none⟩ = some (.int .i64 d.left) := ((unhide kb4).cell 2).trans rfl
             have ykw4 : w3.heap.size < w4.heap.size := (unhide kw4).lt
             have tkw40 : w4.cell? ⟨w3.heap.size, 0, none⟩ = some (.slice Ax WD.dry.length cx) := ((unhide kw4).cell 0).trans rfl
             have tkw41 : w4.cell? ⟨w3.heap.size, 1, none⟩ = some (.slice Ay WD.wet.length cy) := ((unhide kw4).cell 1).trans rfl
             have tkw42 : w4.cell? ⟨w3.heap.size, 2, none⟩ = some (.int .i64 WD.left) := ((unhide kw4).cell 2).trans rfl
             clear tkb30 tkb31 tkb32
             have hd4 := hide (((unhide hd3).below (bl_call (bl_alloc (Below.refl _ _) _) hb4) (Nat.le_refl _)).mono (Nat.zero_le _) (Nat.le_of_lt ykw4))
             obtain ⟨A4, c4, rfl, hx4'⟩ := id hx4
             clear hx4'
             replace hx4 := hide hx4
             have tok2 : True := trivial)
          | (go_at_call 23; have _t := tok2; refine (unhide hsb _ _ HB4 (unhide hx4)).mono ?_; rintro e w4' ⟨rfl, rfl⟩; clear tok2 _t
             have tok3 : True := trivial)
          | (go_at_call 14; have _t := tok3; refine (unhide hrd _ HB4).mono ?_; rintro e w5 ⟨v5, rfl, hx5, hb5⟩; clear tok3 _t
             have HB5 : Below w.heap.size w w5 := bl_call HB4 hb5
             have kb5 := hide (Blk.below (unhide kb4) hb5 ykb4)
             have kw5 := hide (Blk.below (unhide kw4) hb5 ykw4)
             have ykb5 : w.heap.size < w5.heap.size := (unhide kb5).lt
             have tkb50 : w5.cell? ⟨w.heap.size, 0, none⟩ = some (.slice A d.dry.length c) := ((unhide kb5).cell 0).trans rfl
             have tkb51 : w5.cell? ⟨w.heap.size, 1, none⟩ = some (.slice A' d.wet.length c') := ((unhide kb5).cell 1).trans rfl
             have tkb52 : w5.cell? ⟨w.heap.size, 2, none⟩ = some (.int .i64 d.left) := ((unhide kb5).cell 2).trans rfl
             have ykw5 : w3.heap.size < w5.heap.size := (unhide kw5).lt
             have tkw50 : w5.cell? ⟨w3.heap.size, 0, none⟩ = some (.slice Ax WD.dry.length cx) := ((unhide kw5).cell 0).trans rfl
             have tkw51 : w5.cell? ⟨w3.heap.size, 1, none⟩ = some (.slice Ay WD.wet.length cy) := ((unhide kw5).cell 1).trans rfl
             have tkw52 : w5.cell? ⟨w3.heap.size, 2, none⟩ = some (.int .i64 WD.left) := ((unhide kw5).cell 2).trans rfl
             clear tkb40 tkb41 tkb42 tkw40 tkw41 tkw42
             have hd5 := hide (((unhide hd4).below hb5 (Nat.le_refl _)).mono (Nat.zero_le _) hb5.size)
             obtain ⟨A5, c5, rfl, hx5'⟩ := id hx5
             clear hx5'
             replace hx5 := hide hx5
             have tok4 : True := trivial)
          | (go_at_call 14; have _t := tok4; refine (read_any 0 _ WD _ _ (unhide hd5) (unhide fl1) (unhide fw1)).mono ?_; rintro e w6 ⟨v6, E, rfl, hx6, hE6, hb6⟩; clear tok4 _t
             obtain rfl := hE6.trans (unhide hg6)
             clear hE6
             have HB6 : Below w.heap.size w w6 := bl_call HB5 hb6
             have kb6 := hide (Blk.below (unhide kb5) hb6 ykb5)
             have kw6 := hide (Blk.below (unhide kw5) hb6 ykw5)
             have ykb6 : w.heap.size < w6.heap.size := (unhide kb6).lt
             have tkb60 : w6.cell? ⟨w.heap.size, 0, none⟩ = some (.slice A d.dry.length c) := ((unhide kb6).cell 0).trans rfl
             have tkb61 : w6.cell? ⟨w.heap.size, 1, none⟩ = some (.slice A' d.wet.length c') := ((unhide kb6).cell 1).trans rfl
             have tkb62 : w6.cell? ⟨w.heap.size, 2, none⟩ = some (.int .i64 d.left) := ((unhide kb6).cell 2).trans rfl
             have ykw6 : w3.heap.size < w6.heap.size := (unhide kw6).lt
             have tkw60 : w6.cell? ⟨w3.heap.size, 0, none⟩ = some (.slice Ax WD.dry.length cx) := ((unhide kw6).cell 0).trans rfl
             have tkw61 : w6.cell? ⟨w3.heap.size, 1, none⟩ = some (.slice Ay WD.wet.length cy) := ((unhide kw6).cell 1).trans rfl
             have tkw62 : w6.cell? ⟨w3.heap.size, 2, none⟩ = some (.int .i64 WD.left) := ((unhide kw6).cell 2).trans rfl
             clear tkb50 tkb51 tkb52 tkw50 tkw51 tkw52
             have hd6 := hide (((unhide hd5).below hb6 (Nat.le_refl _)).mono (Nat.zero_le _) hb6.size)
             obtain ⟨A6, c6, rfl, hx6'⟩ := id hx6
             clear hx6'
             have hx5b := hide (((unhide hx5).below hb6 (Nat.le_refl _)).mono (Nat.zero_le _) hb6.size)
             replace hx6 := hide hx6
             have tok5 : True := trivial)
          | (go_at_call 23; have _t := tok5; refine (sameb_any _ _ _ _ _ _ _ _ _ (unhide hx5b) (unhide hx6)).mono ?_; rintro e w6' ⟨rfl, rfl⟩; clear tok5 _t
             rw [unhide hsm])
          | (go_at_call 16; refine (sync_any 0 _ WD _ (unhide hd6) (unhide fl1) (unhide fw1)).mono ?_; rintro e w7 ⟨v7, E, rfl, hd7, hE7, hb7⟩
             obtain rfl := hE7.trans (unhide hS2)
             clear hE7
             have HB7 : Below w.heap.size w w7 := bl_call HB6 hb7
             rw [unhide hS1] at hd7
             obtain ⟨Au, cu, Av, cv, rfl⟩ := hd7.form
             have kb7 := hide (Blk.below (unhide kb6) hb7 ykb6)
             have kw7 := hide (Blk.below (unhide kw6) hb7 ykw6)
             have ykb7 : w.heap.size < w7.heap.size := (unhide kb7).lt
             have tkb70 : w7.cell? ⟨w.heap.size, 0, none⟩ = some (.slice A d.dry.length c) := ((unhide kb7).cell 0).trans rfl
             have tkb71 : w7.cell? ⟨w.heap.size, 1, none⟩ = some (.slice A' d.wet.length c') := ((unhide kb7).cell 1).trans rfl
             have tkb72 : w7.cell? ⟨w.heap.size, 2, none⟩ = some (.int .i64 d.left) := ((unhide kb7).cell 2).trans rfl
             have ykw7 : w3.heap.size < w7.heap.size := (unhide kw7).lt
             have tkw70 : w7.cell? ⟨w3.heap.size, 0, none⟩ = some (.slice Ax WD.dry.length cx) := ((unhide kw7).cell 0).trans rfl
             have tkw71 : w7.cell? ⟨w3.heap.size, 1, none⟩ = some (.slice Ay WD.wet.length cy) := ((unhide kw7).cell 1).trans rfl
             have tkw72 : w7.cell? ⟨w3.heap.size, 2, none⟩ = some (.int .i64 WD.left) := ((unhide kw7).cell 2).trans rfl
             clear tkb60 tkb61 tkb62 tkw60 tkw61 tkw62
             replace hd7 := hide hd7)
          | fail)
        go_ret
        exact ⟨rfl, by (repeat (first | with_reducible exact Below.refl _ _ | with_reducible assumption | with_reducible refine Below.drew ?_ | with_reducible refine bl_alloc ?_ _ | with_reducible refine bl_call ?_ (by assumption) | (focus (with_reducible refine Below.setCell ?_ ?_ _; rotate_left; focus (first | omega | (simp <;> omega)))) | fail))⟩
    · clear hXX
      go_enter Try.func5, Try.ntmps5
      go_wp2_with (first
        | (go_at_call 9; refine (live_any _).mono ?_; rintro e w1 ⟨rfl, hb1⟩
           have HB1 : Below w.heap.size w w1 := bl_call (by (repeat (first | with_reducible exact Below.refl _ _ | with_reducible assumption | with_reducible refine Below.drew ?_ | with_reducible refine bl_alloc ?_ _ | with_reducible refine bl_call ?_ (by assumption) | (focus (with_reducible refine Below.setCell ?_ ?_ _; rotate_left; focus (first | omega | (simp <;> omega)))) | fail))) hb1
           have kb1 := hide (Blk.below (g := w.heap.size) (t := 25) (cs := #[.slice A d.dry.length c, .slice A' d.wet.length c', .int .i64 d.left]) (Blk.new rfl) hb1 (by simp))
           have ykb1 : w.heap.size < w1.heap.size := (unhide kb1).lt
           have tkb10 : w1.cell? ⟨w.heap.size, 0, none⟩ = some (.slice A d.dry.length c) := ((unhide kb1).cell 0).trans rfl
           have tkb11 : w1.cell? ⟨w.heap.size, 1, none⟩ = some (.slice A' d.wet.length c') := ((unhide kb1).cell 1).trans rfl
           have tkb12 : w1.cell? ⟨w.heap.size, 2, none⟩ = some (.int .i64 d.left) := ((unhide kb1).cell 2).trans rfl)
        | (go_at_call 10; refine (unhide hfw _ HB1).mono ?_; rintro e w2 ⟨rfl, hb2⟩
           have HB2 : Below w.heap.size w w2 := bl_call HB1 hb2
           have kb2 := hide (Blk.below (unhide kb1) hb2 ykb1)
           have ykb2 : w.heap.size < w2.heap.size := (unhide kb2).lt
           have tkb20 : w2.cell? ⟨w.heap.size, 0, none⟩ = some (.slice A d.dry.length c) := ((unhide kb2).cell 0).trans rfl
           have tkb21 : w2.cell? ⟨w.heap.size, 1, none⟩ = some (.slice A' d.wet.length c') := ((unhide kb2).cell 1).trans rfl
           have tkb22 : w2.cell? ⟨w.heap.size, 2, none⟩ = some (.int .i64 d.left) := ((unhide kb2).cell 2).trans rfl
           clear tkb10 tkb11 tkb12)
        | (go_at_call 12; refine (unhide hwr _ HB2).mono ?_; rintro e w3 ⟨v3, rfl, hd3, hb3⟩
           have HB3 : Below w.heap.size w w3 := bl_call HB2 hb3
           obtain ⟨Ax, cx, Ay, cy, rfl⟩ := hd3.form
           have kb3 := hide (Blk.below (unhide kb2) hb3 ykb2)
           have ykb3 : w.heap.size < w3.heap.size := (unhide kb3).lt
           have tkb30 : w3.cell? ⟨w.heap.size, 0, none⟩ = some (.slice A d.dry.length c) := ((unhide kb3).cell 0).trans rfl
           have tkb31 : w3.cell? ⟨w.heap.size, 1, none⟩ = some (.slice A' d.wet.length c') := ((unhide kb3).cell 1).trans rfl
           have tkb32 : w3.cell? ⟨w.heap.size, 2, none⟩ = some (.int .i64 d.left) := ((unhide kb3).cell 2).trans rfl
           clear tkb20 tkb21 tkb22
           replace hd3 := hide hd3
           have tok1 : True := trivial)
        | (go_at_call 14; have _t := tok1; refine (read_any 0 _ WD _ _ ((((unhide hd3).below (bl_alloc (Below.refl _ _) _) (Nat.le_refl _))).mono (Nat.zero_le _) (by simp)) (unhide fl1) (unhide fw1)).mono ?_; rintro e w4 ⟨v4, E, rfl, hx4, hE4, hb4⟩; clear tok1 _t
           rw [unhide hrW] at hx4 hE4
           obtain rfl : E = 0 := hE4
           have HB4 : Below w.heap.size w w4 := bl_call (bl_alloc HB3 _) hb4
           have kb4 := hide (Blk.below ((unhide kb3).alloc _) hb4 (by simp; omega))
           have kw4 := hide (Blk.below (g := w3.heap.size) (t := 25) (cs := #[.slice Ax WD.dry.length cx, .slice Ay WD.wet.length cy, .int .i64 WD.left]) (Blk.new rfl) hb4 (by simp))
           have ykb4 : w.heap.size < w4.heap.size := (unhide kb4).lt
           have tkb40 : w4.cell? ⟨w.heap.size, 0, none⟩ = some (.slice A d.dry.length c) := ((unhide kb4).cell 0).trans rfl
           have tkb41 : w4.cell? ⟨w.heap.size, 1, none⟩ = some (.slice A' d.wet.length c') := ((unhide kb4).cell 1).trans rfl
           have tkb42 : w4.cell? ⟨w.heap.size, 2, none⟩ = some (.int .i64 d.left) := ((unhide kb4).cell 2).trans rfl
           have ykw4 : w3.heap.size < w4.heap.size := (unhide kw4).lt
           have tkw40 : w4.cell? ⟨w3.heap.size, 0, none⟩ = some (.slice Ax WD.dry.length cx) := ((unhide kw4).cell 0).trans rfl
           have tkw41 : w4.cell? ⟨w3.heap.size, 1, none⟩ = some (.slice Ay WD.wet.length cy) := ((unhide kw4).cell 1).trans rfl
           have tkw42 : w4.cell? ⟨w3.heap.size, 2, none⟩ = some (.int .i64 WD.left) := ((unhide kw4).cell 2).trans rfl
           clear tkb30 tkb31 tkb32
           have hd4 := hide (((unhide hd3).below (bl_call (bl_alloc (Below.refl _ _) _) hb4) (Nat.le_refl _)).mono (Nat.zero_le _) (Nat.le_of_lt ykw4))
           obtain ⟨A4, c4, rfl, hx4'⟩ := id hx4
           clear hx4'
           replace hx4 := hide hx4
           have tok2 : True := trivial)
        | (go_at_call 23; have _t := tok2; refine (unhide hsb _ _ HB4 (unhide hx4)).mono ?_; rintro e w4' ⟨rfl, rfl⟩; clear tok2 _t
           have tok3 : True := trivial)
        | (go_at_call 14; have _t := tok3; refine (unhide hrd _ HB4).mono ?_; rintro e w5 ⟨v5, rfl, hx5, hb5⟩; clear tok3 _t
           have HB5 : Below w.heap.size w w5 := bl_call HB4 hb5
           have kb5 := hide (Blk.below (unhide kb4) hb5 ykb4)
           have kw5 := hide (Blk.below (unhide kw4) hb5 ykw4)
           have ykb5 : w.heap.size < w5.heap.size := (unhide kb5).lt
           have tkb50 : w5.cell? ⟨w.heap.size, 0, none⟩ = some (.slice A d.dry.length c) := ((unhide kb5).cell 0).trans rfl
           have tkb51 : w5.cell? ⟨w.heap.size, 1, none⟩ = some (.slice A' d.wet.length c') := ((unhide kb5).cell 1).trans rfl
           have tkb52 : w5.cell? ⟨w.heap.size, 2, none⟩ = some (.int .i64 d.left) := ((unhide kb5).cell 2).trans rfl
           have ykw5 : w3.heap.size < w5.heap.size := (unhide kw5).lt
           have tkw50 : w5.cell? ⟨w3.heap.size, 0, none⟩ = some (.slice Ax WD.dry.length cx) := ((unhide kw5).cell 0).trans rfl
           have tkw51 : w5.cell? ⟨w3.heap.size, 1, none⟩ = some (.slice Ay WD.wet.length cy) := ((unhide kw5).cell 1).trans rfl
           have tkw52 : w5.cell? ⟨w3.heap.size, 2, none⟩ = some (.int .i64 WD.left) := ((unhide kw5).cell 2).trans rfl
           clear tkb40 tkb41 tkb42 tkw40 tkw41 tkw42
           have hd5 := hide (((unhide hd4).below hb5 (Nat.le_refl _)).mono (Nat.zero_le _) hb5.size)
           obtain ⟨A5, c5, rfl, hx5'⟩ := id hx5
           clear hx5'
           replace hx5 := hide hx5
           have tok4 : True := trivial)
        | (go_at_call 14; have _t := tok4; refine (read_any 0 _ WD _ _ (unhide hd5) (unhide fl1) (unhide fw1)).mono ?_; rintro e w6 ⟨v6, E, rfl, hx6, hE6, hb6⟩; clear tok4 _t
           obtain rfl := hE6.trans (unhide hg6)
           clear hE6
           have HB6 : Below w.heap.size w w6 := bl_call HB5 hb6
           have kb6 := hide (Blk.below (unhide kb5) hb6 ykb5)
           have kw6 := hide (Blk.below (unhide kw5) hb6 ykw5)
           have ykb6 : w.heap.size < w6.heap.size := (unhide kb6).lt
           have tkb60 : w6.cell? ⟨w.heap.size, 0, none⟩ = some (.slice A d.dry.length c) := ((unhide kb6).cell 0).trans rfl
           have tkb61 : w6.cell? ⟨w.heap.size, 1, none⟩ = some (.slice A' d.wet.length c') := ((unhide kb6).cell 1).trans rfl
           have tkb62 : w6.cell? ⟨w.heap.size, 2, none⟩ = some (.int .i64 d.left) := ((unhide kb6).cell 2).trans rfl
           have ykw6 : w3.heap.size < w6.heap.size := (unhide kw6).lt
           have tkw60 : w6.cell? ⟨w3.heap.size, 0, none⟩ = some (.slice Ax WD.dry.length cx) := ((unhide kw6).cell 0).trans rfl
           have tkw61 : w6.cell? ⟨w3.heap.size, 1, none⟩ = some (.slice Ay WD.wet.length cy) := ((unhide kw6).cell 1).trans rfl
           have tkw62 : w6.cell? ⟨w3.heap.size, 2, none⟩ = some (.int .i64 WD.left) := ((unhide kw6).cell 2).trans rfl
           clear tkb50 tkb51 tkb52 tkw50 tkw51 tkw52
           have hd6 := hide (((unhide hd5).below hb6 (Nat.le_refl _)).mono (Nat.zero_le _) hb6.size)
           obtain ⟨A6, c6, rfl, hx6'⟩ := id hx6
           clear hx6'
           have hx5b := hide (((unhide hx5).below hb6 (Nat.le_refl _)).mono (Nat.zero_le _) hb6.size)
           replace hx6 := hide hx6
           have tok5 : True := trivial)
        | (go_at_call 16; refine (sync_any 0 _ WD _ (unhide hd6) (unhide fl1) (unhide fw1)).mono ?_; rintro e w7 ⟨v7, E, rfl, hd7, hE7, hb7⟩
           obtain rfl := hE7.trans (unhide hS2)
           clear hE7
           have HB7 : Below w.heap.size w w7 := bl_call HB6 hb7
           rw [unhide hS1] at hd7
           obtain ⟨Au, cu, Av, cv, rfl⟩ := hd7.form
           have kb7 := hide (Blk.below (unhide kb6) hb7 ykb6)
           have kw7 := hide (Blk.below (unhide kw6) hb7 ykw6)
           have ykb7 : w.heap.size < w7.heap.size := (unhide kb7).lt
           have tkb70 : w7.cell? ⟨w.heap.size, 0, none⟩ = some (.slice A d.dry.length c) := ((unhide kb7).cell 0).trans rfl
           have tkb71 : w7.cell? ⟨w.heap.size, 1, none⟩ = some (.slice A' d.wet.length c') := ((unhide kb7).cell 1).trans rfl
           have tkb72 : w7.cell? ⟨w.heap.size, 2, none⟩ = some (.int .i64 d.left) := ((unhide kb7).cell 2).trans rfl
           have ykw7 : w3.heap.size < w7.heap.size := (unhide kw7).lt
           have tkw70 : w7.cell? ⟨w3.heap.size, 0, none⟩ = some (.slice Ax WD.dry.length cx) := ((unhide kw7).cell 0).trans rfl
           have tkw71 : w7.cell? ⟨w3.heap.size, 1, none⟩ = some (.slice Ay WD.wet.length cy) := ((unhide kw7).cell 1).trans rfl
           have tkw72 : w7.cell? ⟨w3.heap.size, 2, none⟩ = some (.int .i64 WD.left) := ((unhide kw7).cell 2).trans rfl
           clear tkb60 tkb61 tkb62 tkw60 tkw61 tkw62
           replace hd7 := hide hd7)
        | fail)
      go_ret
      exact ⟨rfl, by (repeat (first | with_reducible exact Below.refl _ _ | with_reducible assumption | with_reducible refine Below.drew ?_ | with_reducible refine bl_alloc ?_ _ | with_reducible refine bl_call ?_ (by assumption) | (focus (with_reducible refine Below.setCell ?_ ?_ _; rotate_left; focus (first | omega | (simp <;> omega)))) | fail))⟩
  · obtain ⟨CD, hCD⟩ : ∃ x, x = (crD SD ms).1 := ⟨_, rfl⟩
    have hC1 := hCD.symm
    rw [← hCD] at hCl fl3 fw3 hrC
    have fw2 : SD.wet.length ≤ 1000 := by omega
    have hb1' : ((SD.wet.length : Int) == 0) = true := by rw [hSw]; rfl
    have hb2' : (CD.left == -1) = true := by rw [hCl]; rfl
    clear hlW hSw hCl
    replace hCD := hide hCD; replace hC1 := hide hC1; replace hC2 := hide hC2; replace fl2 := hide fl2; replace fw2 := hide fw2; replace fl3 := hide fl3; replace fw3 := hide fw3; replace hrC := hide hrC
    rcases hg01 with rfl | rfl
    · by_cases hoa : other = at_
      · subst hoa
        clear hXX
        go_enter Try.func5, Try.ntmps5
        go_wp2_with (first
          | (go_at_call 9; refine (live_any _).mono ?_; rintro e w1 ⟨rfl, hb1⟩
             have HB1 : Below w.heap.size w w1 := bl_call (by (repeat (first | with_reducible exact Below.refl _ _ | with_reducible assumption | with_reducible refine Below.drew ?_ | with_reducible refine bl_alloc ?_ _ | with_reducible refine bl_call ?_ (by assumption) | (focus (with_reducible refine Below.setCell ?_ ?_ _; rotate_left; focus (first | omega | (simp <;> omega)))) | fail))) hb1
             have kb1 := hide (Blk.below (g := w.heap.size) (t := 25) (cs := #[.slice A d.dry.length c, .slice A' d.wet.length c', .int .i64 d.left]) (Blk.new rfl) hb1 (by simp))
             have ykb1 : w.heap.size < w1.heap.size := (unhide kb1).lt
             have tkb10 : w1.cell? ⟨w.heap.size, 0, none⟩ = some (.slice A d.dry.length c) := ((unhide kb1).cell 0).trans rfl
             have tkb11 : w1.cell? ⟨w.heap.size, 1, none⟩ = some (.slice A' d.wet.length c') := ((unhide kb1).cell 1).trans rfl
             have tkb12 : w1.cell? ⟨w.heap.size, 2, none⟩ = some (.int .i64 d.left) := ((unhide kb1).cell 2).trans rfl)
          | (go_at_call 10; refine (unhide hfw _ HB1).mono ?_; rintro e w2 ⟨rfl, hb2⟩
             have HB2 : Below w.heap.size w w2 := bl_call HB1 hb2
             have kb2 := hide (Blk.below (unhide kb1) hb2 ykb1)
             have ykb2 : w.heap.size < w2.heap.size := (unhide kb2).lt
             have tkb20 : w2.cell? ⟨w.heap.size, 0, none⟩ = some (.slice A d.dry.length c) := ((unhide kb2).cell 0).trans rfl
             have tkb21 : w2.cell? ⟨w.heap.size, 1, none⟩ = some (.slice A' d.wet.length c') := ((unhide kb2).cell 1).trans rfl
             have tkb22 : w2.cell? ⟨w.heap.size, 2, none⟩ = some (.int .i64 d.left) := ((unhide kb2).cell 2).trans rfl
             clear tkb10 tkb11 tkb12)
          | (go_at_call 12; refine (unhide hwr _ HB2).mono ?_; rintro e w3 ⟨v3, rfl, hd3, hb3⟩
             have HB3 : Below w.heap.size w w3 := bl_call HB2 hb3
             obtain ⟨Ax, cx, Ay, cy, rfl⟩ := hd3.form
             have kb3 := hide (Blk.below (unhide kb2) hb3 ykb2)
             have ykb3 : w.heap.size < w3.heap.size := (unhide kb3).lt
             have tkb30 : w3.cell? ⟨w.heap.size, 0, none⟩ = some (.slice A d.dry.length c) := ((unhide kb3).cell 0).trans rfl
             have tkb31 : w3.cell? ⟨w.heap.size, 1, none⟩ = some (.slice A' d.wet.length c') := ((unhide kb3).cell 1).trans rfl
             have tkb32 : w3.cell? ⟨w.heap.size, 2, none⟩ = some (.int .i64 d.left) := ((unhide kb3).cell 2).trans rfl
             clear tkb20 tkb21 tkb22
             replace hd3 := hide hd3
             have tok1 : True := trivial)
          | (go_at_call 14; have _t := tok1; refine (read_any 0 _ WD _ _ ((((unhide hd3).below (bl_alloc (Below.refl _ _) _) (Nat.le_refl _))).mono (Nat.zero_le _) (by simp)) (unhide fl1) (unhide fw1)).mono ?_; rintro e w4 ⟨v4, E, rfl, hx4, hE4, hb4⟩; clear tok1 _t
             rw [unhide hrW] at hx4 hE4
             obtain rfl : E = 0 := hE4
             have HB4 : Below w.heap.size w w4 := bl_call (bl_alloc HB3 _) hb4
             have kb4 := hide (Blk.below ((unhide kb3).alloc _) hb4 (by simp; omega))
             have kw4 := hide (Blk.below (g := w3.heap.size) (t := 25) (cs := #[.slice Ax WD.dry.length cx, .slice Ay WD.wet.length cy, .int .i64 WD.left]) (Blk.new rfl) hb4 (by simp))
             have ykb4 : w.heap.size < w4.heap.size := (unhide kb4).lt
             have tkb40 : w4.cell? ⟨w.heap.size, 0, none⟩ = some (.slice A d.dry.length c) := ((unhide kb4).cell 0).trans rfl
             have tkb41 : w4.cell? ⟨w.heap.size, 1, none⟩ = some (.slice A' d.wet.length c') := ((unhide kb4).cell 1).trans rfl
             have tkb42 : w4.cell? ⟨w.heap.size, 2, none⟩ = some (.int .i64 d.left) := ((unhide kb4).cell 2).trans rfl
             have ykw4 : w3.heap.size < w4.heap.size := (unhide kw4).lt
             have tkw40 : w4.cell? ⟨w3.heap.size, 0, none⟩ = some (.slice Ax WD.dry.length cx) := ((unhide kw4).cell 0).trans rfl
             have tkw41 : w4.cell? ⟨w3.heap.size, 1, none⟩ = some (.slice Ay WD.wet.length cy) := ((unhide kw4).cell 1).trans rfl
             have tkw42 : w4.cell? ⟨w3.heap.size, 2, none⟩ = some (.int .i64 WD.left) := ((unhide kw4).cell 2).trans rfl
             clear tkb30 tkb31 tkb32
             have hd4 := hide (((unhide hd3).below (bl_call (bl_alloc (Below.refl _ _) _) hb4) (Nat.le_refl _)).mono (Nat.zero_le _) (Nat.le_of_lt ykw4))
             obtain ⟨A4, c4, rfl, hx4'⟩ := id hx4
             clear hx4'
             replace hx4 := hide hx4
             have tok2 : True := trivial)
          | (go_at_call 23; have _t := tok2; refine (unhide hsb _ _ HB4 (unhide hx4)).mono ?_; rintro e w4' ⟨rfl, rfl⟩; clear tok2 _t
             have tok3 : True := trivial)
          | (go_at_call 14; have _t := tok3; refine (unhide hrd _ HB4).mono ?_; rintro e w5 ⟨v5, rfl, hx5, hb5⟩; clear tok3 _t
             have HB5 : Below w.heap.size w w5 := bl_call HB4 hb5
             have kb5 := hide (Blk.below (unhide kb4) hb5 ykb4)
             have kw5 := hide (Blk.below (unhide kw4) hb5 ykw4)
             have ykb5 : w.heap.size < w5.heap.size := (unhide kb5).lt
             have tkb50 : w5.cell? ⟨w.heap.size, 0, none⟩ = some (.slice A d.dry.length c) := ((unhide kb5).cell 0).trans rfl
             have tkb51 : w5.cell? ⟨w.heap.size, 1, none⟩ = some (.slice A' d.wet.length c') := ((unhide kb5).cell 1).trans rfl
             have tkb52 : w5.cell? ⟨w.heap.size, 2, none⟩ = some (.int .i64 d.left) := ((unhide kb5).cell 2).trans rfl
             have ykw5 : w3.heap.size < w5.heap.size := (unhide kw5).lt
             have tkw50 : w5.cell? ⟨w3.heap.size, 0, none⟩ = some (.slice Ax WD.dry.length cx) := ((unhide kw5).cell 0).trans rfl
             have tkw51 : w5.cell? ⟨w3.heap.size, 1, none⟩ = some (.slice Ay WD.wet.length cy) := ((unhide kw5).cell 1).trans rfl
             have tkw52 : w5.cell? ⟨w3.heap.size, 2, none⟩ = some (.int .i64 WD.left) := ((unhide kw5).cell 2).trans rfl
             clear tkb40 tkb41 tkb42 tkw40 tkw41 tkw42
             have hd5 := hide (((unhide hd4).below hb5 (Nat.le_refl _)).mono (Nat.zero_le _) hb5.size)
             obtain ⟨A5, c5, rfl, hx5'⟩ := id hx5
             clear hx5'
             replace hx5 := hide hx5
             have tok4 : True := trivial)
          | (go_at_call 14; have _t := tok4; refine (read_any 0 _ WD _ _ (unhide hd5) (unhide fl1) (unhide fw1)).mono ?_; rintro e w6 ⟨v6, E, rfl, hx6, hE6, hb6⟩; clear tok4 _t
             obtain rfl := hE6.trans (unhide hg6)
             clear hE6
             have HB6 : Below w.heap.size w w6 := bl_call HB5 hb6
             have kb6 := hide (Blk.below (unhide kb5) hb6 ykb5)
             have kw6 := hide (Blk.below (unhide kw5) hb6 ykw5)
             have ykb6 : w.heap.size < w6.heap.size := (unhide kb6).lt
             have tkb60 : w6.cell? ⟨w.heap.size, 0, none⟩ = some (.slice A d.dry.length c) := ((unhide kb6).cell 0).trans rfl
             have tkb61 : w6.cell? ⟨w.heap.size, 1, none⟩ = some (.slice A' d.wet.length c') := ((unhide kb6).cell 1).trans rfl
             have tkb62 : w6.cell? ⟨w.heap.size, 2, none⟩ = some (.int .i64 d.left) := ((unhide kb6).cell 2).trans rfl
             have ykw6 : w3.heap.size < w6.heap.size := (unhide kw6).lt
             have tkw60 : w6.cell? ⟨w3.heap.size, 0, none⟩ = some (.slice Ax WD.dry.length cx) := ((unhide kw6).cell 0).trans rfl
             have tkw61 : w6.cell? ⟨w3.heap.size, 1, none⟩ = some (.slice Ay WD.wet.length cy) := ((unhide kw6).cell 1).trans rfl
             have tkw62 : w6.cell? ⟨w3.heap.size, 2, none⟩ = some (.int .i64 WD.left) := ((unhide kw6).cell 2).trans rfl
             clear tkb50 tkb51 tkb52 tkw50 tkw51 tkw52
             have hd6 := hide (((unhide hd5).below hb6 (Nat.le_refl _)).mono (Nat.zero_le _) hb6.size)
             obtain ⟨A6, c6, rfl, hx6'⟩ := id hx6
             clear hx6'
             have hx5b := hide (((unhide hx5).below hb6 (Nat.le_refl _)).mono (Nat.zero_le _) hb6.size)
             replace hx6 := hide hx6
             have tok5 : True := trivial)
          | (go_at_call 16; refine (sync_any 0 _ WD _ (unhide hd6) (unhide fl1) (unhide fw1)).mono ?_; rintro e w7 ⟨v7, E, rfl, hd7, hE7, hb7⟩
             obtain rfl := hE7.trans (unhide hS2)
             clear hE7
             have HB7 : Below w.heap.size w w7 := bl_call HB6 hb7
             rw [unhide hS1] at hd7
             obtain ⟨Au, cu, Av, cv, rfl⟩ := hd7.form
             have kb7 := hide (Blk.below (unhide kb6) hb7 ykb6)
             have kw7 := hide (Blk.below (unhide kw6) hb7 ykw6)
             have ykb7 : w.heap.size < w7.heap.size := (unhide kb7).lt
             have tkb70 : w7.cell? ⟨w.heap.size, 0, none⟩ = some (.slice A d.dry.length c) := ((unhide kb7).cell 0).trans rfl
             have tkb71 : w7.cell? ⟨w.heap.size, 1, none⟩ = some (.slice A' d.wet.length c') := ((unhide kb7).cell 1).trans rfl
             have tkb72 : w7.cell? ⟨w.heap.size, 2, none⟩ = some (.int .i64 d.left) := ((unhide kb7).cell 2).trans rfl
             have ykw7 : w3.heap.size < w7.heap.size := (unhide kw7).lt
             have tkw70 : w7.cell? ⟨w3.heap.size, 0, none⟩ = some (.slice Ax WD.dry.length cx) := ((unhide kw7).cell 0).trans rfl
             have tkw71 : w7.cell? ⟨w3.heap.size, 1, none⟩ = some (.slice Ay WD.wet.length cy) := ((unhide kw7).cell 1).trans rfl
             have tkw72 : w7.cell? ⟨w3.heap.size, 2, none⟩ = some (.int .i64 WD.left) := ((unhide kw7).cell 2).trans rfl
             clear tkb60 tkb61 tkb62 tkw60 tkw61 tkw62
             replace hd7 := hide hd7)
          | (go_at_call 27; refine (crash_any 0 _ _ SD ms _ (((unhide hd7).below (bl_alloc (Below.refl _ _) _) (Nat.le_refl _)).mono (Nat.zero_le _) (by simp)) (((unhide hm).below (bl_alloc HB7 _) (Nat.le_refl _)).mono (Nat.le_refl _) (bl_alloc HB7 _).size) (unhide fl2) (unhide fw2)).mono ?_; rintro e w8 ⟨v8, E, rfl, hd8, hE8, hb8⟩
             obtain rfl : E = 0 := hE8.trans (unhide hC2)
             clear hE8
             have HB8 : Below w.heap.size w w8 := bl_call (bl_alloc HB7 _) hb8
             rw [unhide hC1] at hd8
             obtain ⟨Ap, cp, Aq, cq, rfl⟩ := hd8.form
             have kb8 := hide (Blk.below ((unhide kb7).alloc _) hb8 (by simp; omega))
             have kw8 := hide (Blk.below ((unhide kw7).alloc _) hb8 (by simp; omega))
             have ks8 := hide (Blk.below (g := w7.heap.size) (t := 25) (cs := #[.slice Au SD.dry.length cu, .slice Av SD.wet.length cv, .int .i64 SD.left]) (Blk.new rfl) hb8 (by simp))
             have ykb8 : w.heap.size < w8.heap.size := (unhide kb8).lt
             have tkb80 : w8.cell? ⟨w.heap.size, 0, none⟩ = some (.slice A d.dry.length c) := ((unhide kb8).cell 0).trans rfl
             have tkb81 : w8.cell? ⟨w.heap.size, 1, none⟩ = some (.slice A' d.wet.length c') := ((unhide kb8).cell 1).trans rfl
             have tkb82 : w8.cell? ⟨w.heap.size, 2, none⟩ = some (.int .i64 d.left) := ((unhide kb8).cell 2).trans rfl
             have ykw8 : w3.heap.size < w8.heap.size := (unhide kw8).lt
             have tkw80 : w8.cell? ⟨w3.heap.size, 0, none⟩ = some (.slice Ax WD.dry.length cx) := ((unhide kw8).cell 0).trans rfl
             have tkw81 : w8.cell? ⟨w3.heap.size, 1, none⟩ = some (.slice Ay WD.wet.length cy) := ((unhide kw8).cell 1).trans rfl
             have tkw82 : w8.cell? ⟨w3.heap.size, 2, none⟩ = some (.int .i64 WD.left) := ((unhide kw8).cell 2).trans rfl
             have yks8 : w7.heap.size < w8.heap.size := (unhide ks8).lt
             have tks80 : w8.cell? ⟨w7.heap.size, 0, none⟩ = some (.slice Au SD.dry.length cu) := ((unhide ks8).cell 0).trans rfl
             have tks81 : w8.cell? ⟨w7.heap.size, 1, none⟩ = some (.slice Av SD.wet.length cv) := ((unhide ks8).cell 1).trans rfl
             have tks82 : w8.cell? ⟨w7.heap.size, 2, none⟩ = some (.int .i64 SD.left) := ((unhide ks8).cell 2).trans rfl
             clear tkb70 tkb71 tkb72 tkw70 tkw71 tkw72
             replace hd8 := hide hd8
             have tok6 : True := trivial)
          | (go_at_call 14; have _t := tok6; refine (read_any 0 _ CD _ _ (((unhide hd8).below (bl_alloc (Below.refl _ _) _) (Nat.le_refl _)).mono (Nat.zero_le _) (by simp)) (unhide fl3) (unhide fw3)).mono ?_; rintro e w9 ⟨v9, E, rfl, hx9, hE9, hb9⟩; clear tok6 _t
             rw [unhide hrC] at hx9 hE9
             obtain rfl : E = 0 := hE9
             have HB9 : Below w.heap.size w w9 := bl_call (bl_alloc HB8 _) hb9
             have kb9 := hide (Blk.below ((unhide kb8).alloc _) hb9 (by simp; omega))
             have kw9 := hide (Blk.below ((unhide kw8).alloc _) hb9 (by simp; omega))
             have ks9 := hide (Blk.below ((unhide ks8).alloc _) hb9 (by simp; omega))
             have kc9 := hide (Blk.below (g := w8.heap.size) (t := 25) (cs := #[.slice Ap CD.dry.length cp, .slice Aq CD.wet.length cq, .int .i64 CD.left]) (Blk.new rfl) hb9 (by simp))
             have ykb9 : w.heap.size < w9.heap.size := (unhide kb9).lt
             have tkb90 : w9.cell? ⟨w.heap.size, 0, none⟩ = some (.slice A d.dry.length c) := ((unhide kb9).cell 0).trans rfl
             have tkb91 : w9.cell? ⟨w.heap.size, 1, none⟩ = some (.slice A' d.wet.length c') := ((unhide kb9).cell 1).trans rfl
             have tkb92 : w9.cell? ⟨w.heap.size, 2, none⟩ = some (.int .i64 d.left) := ((unhide kb9).cell 2).trans rfl
             have ykw9 : w3.heap.size < w9.heap.size := (unhide kw9).lt
             have tkw90 : w9.cell? ⟨w3.heap.size, 0, none⟩ = some (.slice Ax WD.dry.length cx) := ((unhide kw9).cell 0).trans rfl
             have tkw91 : w9.cell? ⟨w3.heap.size, 1, none⟩ = some (.slice Ay WD.wet.length cy) := ((unhide kw9).cell 1).trans rfl
             have tkw92 : w9.cell? ⟨w3.heap.size, 2, none⟩ = some (.int .i64 WD.left) := ((unhide kw9).cell 2).trans rfl
             have yks9 : w7.heap.size < w9.heap.size := (unhide ks9).lt
             have tks90 : w9.cell? ⟨w7.heap.size, 0, none⟩ = some (.slice Au SD.dry.length cu) := ((unhide ks9).cell 0).trans rfl
             have tks91 : w9.cell? ⟨w7.heap.size, 1, none⟩ = some (.slice Av SD.wet.length cv) := ((unhide ks9).cell 1).trans rfl
             have tks92 : w9.cell? ⟨w7.heap.size, 2, none⟩ = some (.int .i64 SD.left) := ((unhide ks9).cell 2).trans rfl
             have ykc9 : w8.heap.size < w9.heap.size := (unhide kc9).lt
             have tkc90 : w9.cell? ⟨w8.heap.size, 0, none⟩ = some (.slice Ap CD.dry.length cp) := ((unhide kc9).cell 0).trans rfl
             have tkc91 : w9.cell? ⟨w8.heap.size, 1, none⟩ = some (.slice Aq CD.wet.length cq) := ((unhide kc9).cell 1).trans rfl
             have tkc92 : w9.cell? ⟨w8.heap.size, 2, none⟩ = some (.int .i64 CD.left) := ((unhide kc9).cell 2).trans rfl
             clear tkb80 tkb81 tkb82 tkw80 tkw81 tkw82 tks80 tks81 tks82
             obtain ⟨A9, c9, rfl, hx9'⟩ := id hx9
             clear hx9'
             replace hx9 := hide hx9
             have tok7 : True := trivial)
          | (go_at_call 23; have _t := tok7; refine (unhide hsb _ _ HB9 (unhide hx9)).mono ?_; rintro e w9' ⟨rfl, rfl⟩; clear tok7 _t
      )
          | fail)
        go_ret
        exact ⟨rfl, by (repeat (first | with_reducible exact Below.refl _ _ | with_reducible assumption | with_reducible refine Below.drew ?_ | with_reducible refine bl_alloc ?_ _ | with_reducible refine bl_call ?_ (by assumption) | (focus (with_reducible refine Below.setCell ?_ ?_ _; rotate_left; focus (first | omega | (simp <;> omega)))) | fail))⟩
      · have hsm := hide (show decide ((rdD d other).1 = (rdD WD other).1) = true by rw [hXX hoa]; simp)
        clear hXX
        go_enter Try.func5, Try.ntmps5
        go_wp2_with (first
          | (go_at_call 9; refine (live_any _).mono ?_; rintro e w1 ⟨rfl, hb1⟩
             have HB1 : Below w.heap.size w w1 := bl_call (by (repeat (first | with_reducible exact Below.refl _ _ | with_reducible assumption | with_reducible refine Below.drew ?_ | with_reducible refine bl_alloc ?_ _ | with_reducible refine bl_call ?_ (by assumption) | (focus (with_reducible refine Below.setCell ?_ ?_ _; rotate_left; focus (first | omega | (simp <;> omega)))) | fail))) hb1
             have kb1 := hide (Blk.below (g := w.heap.size) (t := 25) (cs := #[.slice A d.dry.length c, .slice A' d.wet.length c', .int .i64 d.left]) (Blk.new rfl) hb1 (by simp))
             have ykb1 : w.heap.size < w1.heap.size := (unhide kb1).lt
             have tkb10 : w1.cell? ⟨w.heap.size, 0, none⟩ = some (.slice A d.dry.length c) := ((unhide kb1).cell 0).trans rfl
             have tkb11 : w1.cell? ⟨w.heap.size, 1, none⟩ = some (.slice A' d.wet.length c') := ((unhide kb1).cell 1).trans rfl
             have tkb12 : w1.cell? ⟨w.heap.size, 2, none⟩ = some (.int .i64 d.left) := ((unhide kb1).cell 2).trans rfl)
          | (go_at_call 10; refine (unhide hfw _ HB1).mono ?_; rintro e w2 ⟨rfl, hb2⟩
             have HB2 : Below w.heap.size w w2 := bl_call HB1 hb2
             have kb2 := hide (Blk.below (unhide kb1) hb2 ykb1)
             have ykb2 : w.heap.size < w2.heap.size := (unhide kb2).lt
             have tkb20 : w2.cell? ⟨w.heap.size, 0, none⟩ = some (.slice A d.dry.length c) := ((unhide kb2).cell 0).trans rfl
             have tkb21 : w2.cell? ⟨w.heap.size, 1, none⟩ = some (.slice A' d.wet.length c') := ((unhide kb2).cell 1).trans rfl
             have tkb22 : w2.cell? ⟨w.heap.size, 2, none⟩ = some (.int .i64 d.left) := ((unhide kb2).cell 2).trans rfl
             clear tkb10 tkb11 tkb12)
          | (go_at_call 12; refine (unhide hwr _ HB2).mono ?_; rintro e w3 ⟨v3, rfl, hd3, hb3⟩
             have HB3 : Below w.heap.size w w3 := bl_call HB2 hb3
             obtain ⟨Ax, cx, Ay, cy, rfl⟩ := hd3.form
             have kb3 := hide (Blk.below (unhide kb2) hb3 ykb2)
             have ykb3 : w.heap.size < w3.heap.size := (unhide kb3).lt
             have tkb30 : w3.cell? ⟨w.heap.size, 0, none⟩ = some (.slice A d.dry.length c) := ((unhide kb3).cell 0).trans rfl
             have tkb31 : w3.cell? ⟨w.heap.size, 1, none⟩ = some (.slice A' d.wet.length c') := ((unhide kb3).cell 1).trans rfl
             have tkb32 : w3.cell? ⟨w.heap.size, 2, none⟩ = some (.int .i64 d.left) := ((unhide kb3).cell 2).trans rfl
             clear tkb20 tkb21 tkb22
             replace hd3 := hide hd3
             have tok1 : True := trivial)
          | (go_at_call 14; have _t := tok1; refine (read_any 0 _ WD _ _ ((((unhide hd3).below (bl_alloc (Below.refl _ _) _) (Nat.le_refl _))).mono (Nat.zero_le _) (by simp)) (unhide fl1) (unhide fw1)).mono ?_; rintro e w4 ⟨v4, E, rfl, hx4, hE4, hb4⟩; clear tok1 _t
             rw [unhide hrW] at hx4 hE4
             obtain rfl : E = 0 := hE4
             have HB4 : Below w.heap.size w w4 := bl_call (bl_alloc HB3 _) hb4
             have kb4 := hide (Blk.below ((unhide kb3).alloc _) hb4 (by simp; omega))
             have kw4 := hide (Blk.below (g := w3.heap.size) (t := 25) (cs := #[.slice Ax WD.dry.length cx, .slice Ay WD.wet.length cy, .int .i64 WD.left]) (Blk.new rfl) hb4 (by simp))
             have ykb4 : w.heap.size < w4.heap.size := (unhide kb4).lt
             have tkb40 : w4.cell? ⟨w.heap.size, 0, none⟩ = some (.slice A d.dry.length c) := ((unhide kb4).cell 0).trans rfl
             have tkb41 : w4.cell? ⟨w.heap.size, 1, none⟩ = some (.slice A' d.wet.length c') := ((unhide kb4).cell 1).trans rfl
             have tkb42 : w4.cell? ⟨w.heap.size, 2, none⟩ = some (.int .i64 d.left) := ((unhide kb4).cell 2).trans rfl
             have ykw4 : w3.heap.size < w4.heap.size := (unhide kw4).lt
             have tkw40 : w4.cell? ⟨w3.heap.size, 0, none⟩ = some (.slice Ax WD.dry.length cx) := ((unhide kw4).cell 0).trans rfl
             have tkw41 : w4.cell? ⟨w3.heap.size, 1, none⟩ = some (.slice Ay WD.wet.length cy) := ((unhide kw4).cell 1).trans rfl
             have tkw42 : w4.cell? ⟨w3.heap.size, 2, none⟩ = some (.int .i64 WD.left) := ((unhide kw4).cell 2).trans rfl
             clear tkb30 tkb31 tkb32
             have hd4 := hide (((unhide hd3).below (bl_call (bl_alloc (Below.refl _ _) _) hb4) (Nat.le_refl _)).mono (Nat.zero_le _) (Nat.le_of_lt ykw4))
             obtain ⟨A4, c4, rfl, hx4'⟩ := id hx4
             clear hx4'
             replace hx4 := hide hx4
             have tok2 : True := trivial)
          | (go_at_call 23; have _t := tok2; refine (unhide hsb _ _ HB4 (unhide hx4)).mono ?_; rintro e w4' ⟨rfl, rfl⟩; clear tok2 _t
             have tok3 : True := trivial)
          | (go_at_call 14; have _t := tok3; refine (unhide hrd _ HB4).mono ?_; rintro e w5 ⟨v5, rfl, hx5, hb5⟩; clear tok3 _t
             have HB5 : Below w.heap.size w w5 := bl_call HB4 hb5
             have kb5 := hide (Blk.below (unhide kb4) hb5 ykb4)
             have kw5 := hide (Blk.below (unhide kw4) hb5 ykw4)
             have ykb5 : w.heap.size < w5.heap.size := (unhide kb5).lt
             have tkb50 : w5.cell? ⟨w.heap.size, 0, none⟩ = some (.slice A d.dry.length c) := ((unhide kb5).cell 0).trans rfl
             have tkb51 : w5.cell? ⟨w.heap.size, 1, none⟩ = some (.slice A' d.wet.length c') := ((unhide kb5).cell 1).trans rfl
             have tkb52 : w5.cell? ⟨w.heap.size, 2, none⟩ = some (.int .i64 d.left) := ((unhide kb5).cell 2).trans rfl
             have ykw5 : w3.heap.size < w5.heap.size := (unhide kw5).lt
             have tkw50 : w5.cell? ⟨w3.heap.size, 0, none⟩ = some (.slice Ax WD.dry.length cx) := ((unhide kw5).cell 0).trans rfl
             have tkw51 : w5.cell? ⟨w3.heap.size, 1, none⟩ = some (.slice Ay WD.wet.length cy) := ((unhide kw5).cell 1).trans rfl
             have tkw52 : w5.cell? ⟨w3.heap.size, 2, none⟩ = some (.int .i64 WD.left) := ((unhide kw5).cell 2).trans rfl
             clear tkb40 tkb41 tkb42 tkw40 tkw41 tkw42
             have hd5 := hide (((unhide hd4).below hb5 (Nat.le_refl _)).mono (Nat.zero_le _) hb5.size)
             obtain ⟨A5, c5, rfl, hx5'⟩ := id hx5
             clear hx5'
             replace hx5 := hide hx5
             have tok4 : True := trivial)
          | (go_at_call 14; have _t := tok4; refine (read_any 0 _ WD _ _ (unhide hd5) (unhide fl1) (unhide fw1)).mono ?_; rintro e w6 ⟨v6, E, rfl, hx6, hE6, hb6⟩; clear tok4 _t
             obtain rfl := hE6.trans (unhide hg6)
             clear hE6
             have HB6 : Below w.heap.size w w6 := bl_call HB5 hb6
             have kb6 := hide (Blk.below (unhide kb5) hb6 ykb5)
             have kw6 := hide (Blk.below (unhide kw5) hb6 ykw5)
             have ykb6 : w.heap.size < w6.heap.size := (unhide kb6).lt
             have tkb60 : w6.cell? ⟨w.heap.size, 0, none⟩ = some (.slice A d.dry.length c) := ((unhide kb6).cell 0).trans rfl
             have tkb61 : w6.cell? ⟨w.heap.size, 1, none⟩ = some (.slice A' d.wet.length c') := ((unhide kb6).cell 1).trans rfl
             have tkb62 : w6.cell? ⟨w.heap.size, 2, none⟩ = some (.int .i64 d.left) := ((unhide kb6).cell 2).trans rfl
             have ykw6 : w3.heap.size < w6.heap.size := (unhide kw6).lt
             have tkw60 : w6.cell? ⟨w3.heap.size, 0, none⟩ = some (.slice Ax WD.dry.length cx) := ((unhide kw6).cell 0).trans rfl
             have tkw61 : w6.cell? ⟨w3.heap.size, 1, none⟩ = some (.slice Ay WD.wet.length cy) := ((unhide kw6).cell 1).trans rfl
             have tkw62 : w6.cell? ⟨w3.heap.size, 2, none⟩ = some (.int .i64 WD.left) := ((unhide kw6).cell 2).trans rfl
             clear tkb50 tkb51 tkb52 tkw50 tkw51 tkw52
             have hd6 := hide (((unhide hd5).below hb6 (Nat.le_refl _)).mono (Nat.zero_le _) hb6.size)
             obtain ⟨A6, c6, rfl, hx6'⟩ := id hx6
             clear hx6'
             have hx5b := hide (((unhide hx5).below hb6 (Nat.le_refl _)).mono (Nat.zero_le _) hb6.size)
             replace hx6 := hide hx6
             have tok5 : True := trivial)
          | (go_at_call 23; have _t := tok5; refine (sameb_any _ _ _ _ _ _ _ _ _ (unhide hx5b) (unhide hx6)).mono ?_; rintro e w6' ⟨rfl, rfl⟩; clear tok5 _t
             rw [unhide hsm])
          | (go_at_call 16; refine (sync_any 0 _ WD _ (unhide hd6) (unhide fl1) (unhide fw1)).mono ?_; rintro e w7 ⟨v7, E, rfl, hd7, hE7, hb7⟩
             obtain rfl := hE7.trans (unhide hS2)
             clear hE7
             have HB7 : Below w.heap.size w w7 := bl_call HB6 hb7
             rw [unhide hS1] at hd7
             obtain ⟨Au, cu, Av, cv, rfl⟩ := hd7.form
             have kb7 := hide (Blk.below (unhide kb6) hb7 ykb6)
             have kw7 := hide (Blk.below (unhide kw6) hb7 ykw6)
             have ykb7 : w.heap.size < w7.heap.size := (unhide kb7).lt
             have tkb70 : w7.cell? ⟨w.heap.size, 0, none⟩ = some (.slice A d.dry.length c) := ((unhide kb7).cell 0).trans rfl
             have tkb71 : w7.cell? ⟨w.heap.size, 1, none⟩ = some (.slice A' d.wet.length c') := ((unhide kb7).cell 1).trans rfl
             have tkb72 : w7.cell? ⟨w.heap.size, 2, none⟩ = some (.int .i64 d.left) := ((unhide kb7).cell 2).trans rfl
             have ykw7 : w3.heap.size < w7.heap.size := (unhide kw7).lt
             have tkw70 : w7.cell? ⟨w3.heap.size, 0, none⟩ = some (.slice Ax WD.dry.length cx) := ((unhide kw7).cell 0).trans rfl
             have tkw71 : w7.cell? ⟨w3.heap.size, 1, none⟩ = some (.slice Ay WD.wet.length cy) := ((unhide kw7).cell 1).trans rfl
             have tkw72 : w7.cell? ⟨w3.heap.size, 2, none⟩ = some (.int .i64 WD.left) := ((unhide kw7).cell 2).trans rfl
             clear tkb60 tkb61 tkb62 tkw60 tkw61 tkw62
             replace hd7 := hide hd7)
          | (go_at_call 27; refine (crash_any 0 _ _ SD ms _ (((unhide hd7).below (bl_alloc (Below.refl _ _) _) (Nat.le_refl _)).mono (Nat.zero_le _) (by simp)) (((unhide hm).below (bl_alloc HB7 _) (Nat.le_refl _)).mono (Nat.le_refl _) (bl_alloc HB7 _).size) (unhide fl2) (unhide fw2)).mono ?_; rintro e w8 ⟨v8, E, rfl, hd8, hE8, hb8⟩
             obtain rfl : E = 0 := hE8.trans (unhide hC2)
             clear hE8
             have HB8 : Below w.heap.size w w8 := bl_call (bl_alloc HB7 _) hb8
             rw [unhide hC1] at hd8
             obtain ⟨Ap, cp, Aq, cq, rfl⟩ := hd8.form
             have kb8 := hide (Blk.below ((unhide kb7).alloc _) hb8 (by simp; omega))
             have kw8 := hide (Blk.below ((unhide kw7).alloc _) hb8 (by simp; omega))
             have ks8 := hide (Blk.below (g := w7.heap.size) (t := 25) (cs := #[.slice Au SD.dry.length cu, .slice Av SD.wet.length cv, .int .i64 SD.left]) (Blk.new rfl) hb8 (by simp))
             have ykb8 : w.heap.size < w8.heap.size := (unhide kb8).lt
             have tkb80 : w8.cell? ⟨w.heap.size, 0, none⟩ = some (.slice A d.dry.length c) := ((unhide kb8).cell 0).trans rfl
             have tkb81 : w8.cell? ⟨w.heap.size, 1, none⟩ = some (.slice A' d.wet.length c') := ((unhide kb8).cell 1).trans rfl
             have tkb82 : w8.cell? ⟨w.heap.size, 2, none⟩ = some (.int .i64 d.left) := ((unhide kb8).cell 2).trans rfl
             have ykw8 : w3.heap.size < w8.heap.size := (unhide kw8).lt
             have tkw80 : w8.cell? ⟨w3.heap.size, 0, none⟩ = some (.slice Ax WD.dry.length cx) := ((unhide kw8).cell 0).trans rfl
             have tkw81 : w8.cell? ⟨w3.heap.size, 1, none⟩ = some (.slice Ay WD.wet.length cy) := ((unhide kw8).cell 1).trans rfl
             have tkw82 : w8.cell? ⟨w3.heap.size, 2, none⟩ = some (.int .i64 WD.left) := ((unhide kw8).cell 2).trans rfl
             have yks8 : w7.heap.size < w8.heap.size := (unhide ks8).lt
             have tks80 : w8.cell? ⟨w7.heap.size, 0, none⟩ = some (.slice Au SD.dry.length cu) := ((unhide ks8).cell 0).trans rfl
             have tks81 : w8.cell? ⟨w7.heap.size, 1, none⟩ = some (.slice Av SD.wet.length cv) := ((unhide ks8).cell 1).trans rfl
             have tks82 : w8.cell? ⟨w7.heap.size, 2, none⟩ = some (.int .i64 SD.left) := ((unhide ks8).cell 2).trans rfl
             clear tkb70 tkb71 tkb72 tkw70 tkw71 tkw72
             replace hd8 := hide hd8
             have tok6 : True := trivial)
          | (go_at_call 14; have _t := tok6; refine (read_any 0 _ CD _ _ (((unhide hd8).below (bl_alloc (Below.refl _ _) _) (Nat.le_refl _)).mono (Nat.zero_le _) (by simp)) (unhide fl3) (unhide fw3)).mono ?_; rintro e w9 ⟨v9, E, rfl, hx9, hE9, hb9⟩; clear tok6 _t
             rw [unhide hrC] at hx9 hE9
             obtain rfl : E = 0 := hE9
             have HB9 : Below w.heap.size w w9 := bl_call (bl_alloc HB8 _) hb9
             have kb9 := hide (Blk.below ((unhide kb8).alloc _) hb9 (by simp; omega))
             have kw9 := hide (Blk.below ((unhide kw8).alloc _) hb9 (by simp; omega))
             have ks9 := hide (Blk.below ((unhide ks8).alloc _) hb9 (by simp; omega))
             have kc9 := hide (Blk.below (g := w8.heap.size) (t := 25) (cs := #[.slice Ap CD.dry.length cp, .slice Aq CD.wet.length cq, .int .i64 CD.left]) (Blk.new rfl) hb9 (by simp))
             have ykb9 : w.heap.size < w9.heap.size := (unhide kb9).lt
             have tkb90 : w9.cell? ⟨w.heap.size, 0, none⟩ = some (.slice A d.dry.length c) := ((unhide kb9).cell 0).trans rfl
             have tkb91 : w9.cell? ⟨w.heap.size, 1, none⟩ = some (.slice A' d.wet.length c') := ((unhide kb9).cell 1).trans rfl
             have tkb92 : w9.cell? ⟨w.heap.size, 2, none⟩ = some (.int .i64 d.left) := ((unhide kb9).cell 2).trans rfl
             have ykw9 : w3.heap.size < w9.heap.size := (unhide kw9).lt
             have tkw90 : w9.cell? ⟨w3.heap.size, 0, none⟩ = some (.slice Ax WD.dry.length cx) := ((unhide kw9).cell 0).trans rfl
             have tkw91 : w9.cell? ⟨w3.heap.size, 1, none⟩ = some (.slice Ay WD.wet.length cy) := ((unhide kw9).cell 1).trans rfl
             have tkw92 : w9.cell? ⟨w3.heap.size, 2, none⟩ = some (.int .i64 WD.left) := ((unhide kw9).cell 2).trans rfl
             have yks9 : w7.heap.size < w9.heap.size := (unhide ks9).lt
             have tks90 : w9.cell? ⟨w7.heap.size, 0, none⟩ = some (.slice Au SD.dry.length cu) := ((unhide ks9).cell 0).trans rfl
             have tks91 : w9.cell? ⟨w7.heap.size, 1, none⟩ = some (.slice Av SD.wet.length cv) := ((unhide ks9).cell 1).trans rfl
             have tks92 : w9.cell? ⟨w7.heap.size, 2, none⟩ = some (.int .i64 SD.left) := ((unhide ks9).cell 2).trans rfl
             have ykc9 : w8.heap.size < w9.heap.size := (unhide kc9).lt
             have tkc90 : w9.cell? ⟨w8.heap.size, 0, none⟩ = some (.slice Ap CD.dry.length cp) := ((unhide kc9).cell 0).trans rfl
             have tkc91 : w9.cell? ⟨w8.heap.size, 1, none⟩ = some (.slice Aq CD.wet.length cq) := ((unhide kc9).cell 1).trans rfl
             have tkc92 : w9.cell? ⟨w8.heap.size, 2, none⟩ = some (.int .i64 CD.left) := ((unhide kc9).cell 2).trans rfl
             clear tkb80 tkb81 tkb82 tkw80 tkw81 tkw82 tks80 tks81 tks82
             obtain ⟨A9, c9, rfl, hx9'⟩ := id hx9
             clear hx9'
             replace hx9 := hide hx9
             have tok7 : True := trivial)
          | (go_at_call 23; have _t := tok7; refine (unhide hsb _ _ HB9 (unhide hx9)).mono ?_; rintro e w9' ⟨rfl, rfl⟩; clear tok7 _t
      )
          | fail)
        go_ret
        exact ⟨rfl, by (repeat (first | with_reducible exact Below.refl _ _ | with_reducible assumption | with_reducible refine Below.drew ?_ | with_reducible refine bl_alloc ?_ _ | with_reducible refine bl_call ?_ (by assumption) | (focus (with_reducible refine Below.setCell ?_ ?_ _; rotate_left; focus (first | omega | (simp <;> omega)))) | fail))⟩
    · clear hXX
      go_enter Try.func5, Try.ntmps5
      go_wp2_with (first
        | (go_at_call 9; refine (live_any _).mono ?_; rintro e w1 ⟨rfl, hb1⟩
           have HB1 : Below w.heap.size w w1 := bl_call (by (repeat (first | with_reducible exact Below.refl _ _ | with_reducible assumption | with_reducible refine Below.drew ?_ | with_reducible refine bl_alloc ?_ _ | with_reducible refine bl_call ?_ (by assumption) | (focus (with_reducible refine Below.setCell ?_ ?_ _; rotate_left; focus (first | omega | (simp <;> omega)))) | fail))) hb1
           have kb1 := hide (Blk.below (g := w.heap.size) (t := 25) (cs := #[.slice A d.dry.length c, .slice A' d.wet.length c', .int .i64 d.left]) (Blk.new rfl) hb1 (by simp))
           have ykb1 : w.heap.size < w1.heap.size := (unhide kb1).lt
           have tkb10 : w1.cell? ⟨w.heap.size, 0, none⟩ = some (.slice A d.dry.length c) := ((unhide kb1).cell 0).trans rfl
           have tkb11 : w1.cell? ⟨w.heap.size, 1, none⟩ = some (.slice A' d.wet.length c') := ((unhide kb1).cell 1).trans rfl
           have tkb12 : w1.cell? ⟨w.heap.size, 2, none⟩ = some (.int .i64 d.left) := ((unhide kb1).cell 2).trans rfl)
        | (go_at_call 10; refine (unhide hfw _ HB1).mono ?_; rintro e w2 ⟨rfl, hb2⟩
           have HB2 : Below w.heap.size w w2 := bl_call HB1 hb2
           have kb2 := hide (Blk.below (unhide kb1) hb2 ykb1)
           have ykb2 : w.heap.size < w2.heap.size := (unhide kb2).lt
           have tkb20 : w2.cell? ⟨w.heap.size, 0, none⟩ = some (.slice A d.dry.length c) := ((unhide kb2).cell 0).trans rfl
           have tkb21 : w2.cell? ⟨w.heap.size, 1, none⟩ = some (.slice A' d.wet.length c') := ((unhide kb2).cell 1).trans rfl
           have tkb22 : w2.cell? ⟨w.heap.size, 2, none⟩ = some (.int .i64 d.left) := ((unhide kb2).cell 2).trans rfl
           clear tkb10 tkb11 tkb12)
        | (go_at_call 12; refine (unhide hwr _ HB2).mono ?_; rintro e w3 ⟨v3, rfl, hd3, hb3⟩
           have HB3 : Below w.heap.size w w3 := bl_call HB2 hb3
           obtain ⟨Ax, cx, Ay, cy, rfl⟩ := hd3.form
           have kb3 := hide (Blk.below (unhide kb2) hb3 ykb2)
           have ykb3 : w.heap.size < w3.heap.size := (unhide kb3).lt
           have tkb30 : w3.cell? ⟨w.heap.size, 0, none⟩ = some (.slice A d.dry.length c) := ((unhide kb3).cell 0).trans rfl
           have tkb31 : w3.cell? ⟨w.heap.size, 1, none⟩ = some (.slice A' d.wet.length c') := ((unhide kb3).cell 1).trans rfl
           have tkb32 : w3.cell? ⟨w.heap.size, 2, none⟩ = some (.int .i64 d.left) := ((unhide kb3).cell 2).trans rfl
           clear tkb20 tkb21 tkb22
           replace hd3 := hide hd3
           have tok1 : True := trivial)
        | (go_at_call 14; have _t := tok1; refine (read_any 0 _ WD _ _ ((((unhide hd3).below (bl_alloc (Below.refl _ _) _) (Nat.le_refl _))).mono (Nat.zero_le _) (by simp)) (unhide fl1) (unhide fw1)).mono ?_; rintro e w4 ⟨v4, E, rfl, hx4, hE4, hb4⟩; clear tok1 _t
           rw [unhide hrW] at hx4 hE4
           obtain rfl : E = 0 := hE4
           have HB4 : Below w.heap.size w w4 := bl_call (bl_alloc HB3 _) hb4
           have kb4 := hide (Blk.below ((unhide kb3).alloc _) hb4 (by simp; omega))
           have kw4 := hide (Blk.below (g := w3.heap.size) (t := 25) (cs := #[.slice Ax WD.dry.length cx, .slice Ay WD.wet.length cy, .int .i64 WD.left]) (Blk.new rfl) hb4 (by simp))
           have ykb4 : w.heap.size < w4.heap.size := (unhide kb4).lt
           have tkb40 : w4.cell? ⟨w.heap.size, 0, none⟩ = some (.slice A d.dry.length c) := ((unhide kb4).cell 0).trans rfl
           have tkb41 : w4.cell? ⟨w.heap.size, 1, none⟩ = some (.slice A' d.wet.length c') := ((unhide kb4).cell 1).trans rfl
           have tkb42 : w4.cell? ⟨w.heap.size, 2, none⟩ = some (.int .i64 d.left) := ((unhide kb4).cell 2).trans rfl
           have ykw4 : w3.heap.size < w4.heap.size := (unhide kw4).lt
           have tkw40 : w4.cell? ⟨w3.heap.size, 0, none⟩ = some (.slice Ax WD.dry.length cx) := ((unhide kw4).cell 0).trans rfl
           have tkw41 : w4.cell? ⟨w3.heap.size, 1, none⟩ = some (.slice Ay WD.wet.length cy) := ((unhide kw4).cell 1).trans rfl
           have tkw42 : w4.cell? ⟨w3.heap.size, 2, none⟩ = some (.int .i64 WD.left) := ((unhide kw4).cell 2).trans rfl
           clear tkb30 tkb31 tkb32
           have hd4 := hide (((unhide hd3).below (bl_call (bl_alloc (Below.refl _ _) _) hb4) (Nat.le_refl _)).mono (Nat.zero_le _) (Nat.le_of_lt ykw4))
           obtain ⟨A4, c4, rfl, hx4'⟩ := id hx4
           clear hx4'
           replace hx4 := hide hx4
           have tok2 : True := trivial)
        | (go_at_call 23; have _t := tok2; refine (unhide hsb _ _ HB4 (unhide hx4)).mono ?_; rintro e w4' ⟨rfl, rfl⟩; clear tok2 _t
           have tok3 : True := trivial)
        | (go_at_call 14; have _t := tok3; refine (unhide hrd _ HB4).mono ?_; rintro e w5 ⟨v5, rfl, hx5, hb5⟩; clear tok3 _t
           have HB5 : Below w.heap.size w w5 := bl_call HB4 hb5
           have kb5 := hide (Blk.below (unhide kb4) hb5 ykb4)
           have kw5 := hide (Blk.below (unhide kw4) hb5 ykw4)
           have ykb5 : w.heap.size < w5.heap.size := (unhide kb5).lt
           have tkb50 : w5.cell? ⟨w.heap.size, 0, none⟩ = some (.slice A d.dry.length c) := ((unhide kb5).cell 0).trans rfl
           have tkb51 : w5.cell? ⟨w.heap.size, 1, none⟩ = some (.slice A' d.wet.length c') := ((unhide kb5).cell 1).trans rfl
           have tkb52 : w5.cell? ⟨w.heap.size, 2, none⟩ = some (.int .i64 d.left) := ((unhide kb5).cell 2).trans rfl
           have ykw5 : w3.heap.size < w5.heap.size := (unhide kw5).lt
           have tkw50 : w5.cell? ⟨w3.heap.size, 0, none⟩ = some (.slice Ax WD.dry.length cx) := ((unhide kw5).cell 0).trans rfl
           have tkw51 : w5.cell? ⟨w3.heap.size, 1, none⟩ = some (.slice Ay WD.wet.length cy) := ((unhide kw5).cell 1).trans rfl
           have tkw52 : w5.cell? ⟨w3.heap.size, 2, none⟩ = some (.int .i64 WD.left) := ((unhide kw5).cell 2).trans rfl
           clear tkb40 tkb41 tkb42 tkw40 tkw41 tkw42
           have hd5 := hide (((unhide hd4).below hb5 (Nat.le_refl _)).mono (Nat.zero_le _) hb5.size)
           obtain ⟨A5, c5, rfl, hx5'⟩ := id hx5
           clear hx5'
           replace hx5 := hide hx5
           have tok4 : True := trivial)
        | (go_at_call 14; have _t := tok4; refine (read_any 0 _ WD _ _ (unhide hd5) (unhide fl1) (unhide fw1)).mono ?_; rintro e w6 ⟨v6, E, rfl, hx6, hE6, hb6⟩; clear tok4 _t
           obtain rfl := hE6.trans (unhide hg6)
           clear hE6
           have HB6 : Below w.heap.size w w6 := bl_call HB5 hb6
           have kb6 := hide (Blk.below (unhide kb5) hb6 ykb5)
           have kw6 := hide (Blk.below (unhide kw5) hb6 ykw5)
           have ykb6 : w.heap.size < w6.heap.size := (unhide kb6).lt
           have tkb60 : w6.cell? ⟨w.heap.size, 0, none⟩ = some (.slice A d.dry.length c) := ((unhide kb6).cell 0).trans rfl
           have tkb61 : w6.cell? ⟨w.heap.size, 1, none⟩ = some (.slice A' d.wet.length c') := ((unhide kb6).cell 1).trans rfl
           have tkb62 : w6.cell? ⟨w.heap.size, 2, none⟩ = some (.int .i64 d.left) := ((unhide kb6).cell 2).trans rfl
           have ykw6 : w3.heap.size < w6.heap.size := (unhide kw6).lt
           have tkw60 : w6.cell? ⟨w3.heap.size, 0, none⟩ = some (.slice Ax WD.dry.length cx) := ((unhide kw6).cell 0).trans rfl
           have tkw61 : w6.cell? ⟨w3.heap.size, 1, none⟩ = some (.slice Ay WD.wet.length cy) := ((unhide kw6).cell 1).trans rfl
           have tkw62 : w6.cell? ⟨w3.heap.size, 2, none⟩ = some (.int .i64 WD.left) := ((unhide kw6).cell 2).trans rfl
           clear tkb50 tkb51 tkb52 tkw50 tkw51 tkw52
           have hd6 := hide (((unhide hd5).below hb6 (Nat.le_refl _)).mono (Nat.zero_le _) hb6.size)
           obtain ⟨A6, c6, rfl, hx6'⟩ := id hx6
           clear hx6'
           have hx5b := hide (((unhide hx5).below hb6 (Nat.le_refl _)).mono (Nat.zero_le _) hb6.size)
           replace hx6 := hide hx6
           have tok5 : True := trivial)
        | (go_at_call 16; refine (sync_any 0 _ WD _ (unhide hd6) (unhide fl1) (unhide fw1)).mono ?_; rintro e w7 ⟨v7, E, rfl, hd7, hE7, hb7⟩
           obtain rfl := hE7.trans (unhide hS2)
           clear hE7
           have HB7 : Below w.heap.size w w7 := bl_call HB6 hb7
           rw [unhide hS1] at hd7
           obtain ⟨Au, cu, Av, cv, rfl⟩ := hd7.form
           have kb7 := hide (Blk.below (unhide kb6) hb7 ykb6)
           have kw7 := hide (Blk.below (unhide kw6) hb7 ykw6)
           have ykb7 : w.heap.size < w7.heap.size := (unhide kb7).lt
           have tkb70 : w7.cell? ⟨w.heap.size, 0, none⟩ = some (.slice A d.dry.length c) := ((unhide kb7).cell 0).trans rfl
           have tkb71 : w7.cell? ⟨w.heap.size, 1, none⟩ = some (.slice A' d.wet.length c') := ((unhide kb7).cell 1).trans rfl
           have tkb72 : w7.cell? ⟨w.heap.size, 2, none⟩ = some (.int .i64 d.left) := ((unhide kb7).cell 2).trans rfl
           have ykw7 : w3.heap.size < w7.heap.size := (unhide kw7).lt
           have tkw70 : w7.cell? ⟨w3.heap.size, 0, none⟩ = some (.slice Ax WD.dry.length cx) := ((unhide kw7).cell 0).trans rfl
           have tkw71 : w7.cell? ⟨w3.heap.size, 1, none⟩ = some (.slice Ay WD.wet.length cy) := ((unhide kw7).cell 1).trans rfl
           have tkw72 : w7.cell? ⟨w3.heap.size, 2, none⟩ = some (.int .i64 WD.left) := ((unhide kw7).cell 2).trans rfl
           clear tkb60 tkb61 tkb62 tkw60 tkw61 tkw62
           replace hd7 := hide hd7)
        | (go_at_call 27; refine (crash_any 0 _ _ SD ms _ (((unhide hd7).below (bl_alloc (Below.refl _ _) _) (Nat.le_refl _)).mono (Nat.zero_le _) (by simp)) (((unhide hm).below (bl_alloc HB7 _) (Nat.le_refl _)).mono (Nat.le_refl _) (bl_alloc HB7 _).size) (unhide fl2) (unhide fw2)).mono ?_; rintro e w8 ⟨v8, E, rfl, hd8, hE8, hb8⟩
           obtain rfl : E = 0 := hE8.trans (unhide hC2)
           clear hE8
           have HB8 : Below w.heap.size w w8 := bl_call (bl_alloc HB7 _) hb8
           rw [unhide hC1] at hd8
           obtain ⟨Ap, cp, Aq, cq, rfl⟩ := hd8.form
           have kb8 := hide (Blk.below ((unhide kb7).alloc _) hb8 (by simp; omega))
           have kw8 := hide (Blk.below ((unhide kw7).alloc _) hb8 (by simp; omega))
           have ks8 := hide (Blk.below (g := w7.heap.size) (t := 25) (cs := #[.slice Au SD.dry.length cu, .slice Av SD.wet.length cv, .int .i64 SD.left]) (Blk.new rfl) hb8 (by simp))
           have ykb8 : w.heap.size < w8.heap.size := (unhide kb8).lt
           have tkb80 : w8.cell? ⟨w.heap.size, 0, none⟩ = some (.slice A d.dry.length c) := ((unhide kb8).cell 0).trans rfl
           have tkb81 : w8.cell? ⟨w.heap.size, 1, none⟩ = some (.slice A' d.wet.length c') := ((unhide kb8).cell 1).trans rfl
           have tkb82 : w8.cell? ⟨w.heap.size, 2, none⟩ = some (.int .i64 d.left) := ((unhide kb8).cell 2).trans rfl
           have ykw8 : w3.heap.size < w8.heap.size := (unhide kw8).lt
           have tkw80 : w8.cell? ⟨w3.heap.size, 0, none⟩ = some (.slice Ax WD.dry.length cx) := ((unhide kw8).cell 0).trans rfl
           have tkw81 : w8.cell? ⟨w3.heap.size, 1, none⟩ = some (.slice Ay WD.wet.length cy) := ((unhide kw8).cell 1).trans rfl
           have tkw82 : w8.cell? ⟨w3.heap.size, 2, none⟩ = some (.int .i64 WD.left) := ((unhide kw8).cell 2).trans rfl
           have yks8 : w7.heap.size < w8.heap.size := (unhide ks8).lt
           have tks80 : w8.cell? ⟨w7.heap.size, 0, none⟩ = some (.slice Au SD.dry.length cu) := ((unhide ks8).cell 0).trans rfl
           have tks81 : w8.cell? ⟨w7.heap.size, 1, none⟩ = some (.slice Av SD.wet.length cv) := ((unhide ks8).cell 1).trans rfl
           have tks82 : w8.cell? ⟨w7.heap.size, 2, none⟩ = some (.int .i64 SD.left) := ((unhide ks8).cell 2).trans rfl
           clear tkb70 tkb71 tkb72 tkw70 tkw71 tkw72
           replace hd8 := hide hd8
           have tok6 : True := trivial)
        | (go_at_call 14; have _t := tok6; refine (read_any 0 _ CD _ _ (((unhide hd8).below (bl_alloc (Below.refl _ _) _) (Nat.le_refl _)).mono (Nat.zero_le _) (by simp)) (unhide fl3) (unhide fw3)).mono ?_; rintro e w9 ⟨v9, E, rfl, hx9, hE9, hb9⟩; clear tok6 _t
           rw [unhide hrC] at hx9 hE9
           obtain rfl : E = 0 := hE9
           have HB9 : Below w.heap.size w w9 := bl_call (bl_alloc HB8 _) hb9
           have kb9 := hide (Blk.below ((unhide kb8).alloc _) hb9 (by simp; omega))
           have kw9 := hide (Blk.below ((unhide kw8).alloc _) hb9 (by simp; omega))
           have ks9 := hide (Blk.below ((unhide ks8).alloc _) hb9 (by simp; omega))
           have kc9 := hide (Blk.below (g := w8.heap.size) (t := 25) (cs := #[.slice Ap CD.dry.length cp, .slice Aq CD.wet.length cq, .int .i64 CD.left]) (Blk.new rfl) hb9 (by simp))
           have ykb9 : w.heap.size < w9.heap.size := (unhide kb9).lt
           have tkb90 : w9.cell? ⟨w.heap.size, 0, none⟩ = some (.slice A d.dry.length c) := ((unhide kb9).cell 0).trans rfl
           have tkb91 : w9.cell? ⟨w.heap.size, 1, none⟩ = some (.slice A' d.wet.length c') := ((unhide kb9).cell 1).trans rfl
           have tkb92 : w9.cell? ⟨w.heap.size, 2, none⟩ = some (.int .i64 d.left) := ((unhide kb9).cell 2).trans rfl
           have ykw9 : w3.heap.size < w9.heap.size := (unhide kw9).lt
           have tkw90 : w9.cell? ⟨w3.heap.size, 0, none⟩ = some (.slice Ax WD.dry.length cx) := ((unhide kw9).cell 0).trans rfl
           have tkw91 : w9.cell? ⟨w3.heap.size, 1, none⟩ = some (.slice Ay WD.wet.length cy) := ((unhide kw9).cell 1).trans rfl
           have tkw92 : w9.cell? ⟨w3.heap.size, 2, none⟩ = some (.int .i64 WD.left) := ((unhide kw9).cell 2).trans rfl
           have yks9 : w7.heap.size < w9.heap.size := (unhide ks9).lt
           have tks90 : w9.cell? ⟨w7.heap.size, 0, none⟩ = some (.slice Au SD.dry.length cu) := ((unhide ks9).cell 0).trans rfl
           have tks91 : w9.cell? ⟨w7.heap.size, 1, none⟩ = some (.slice Av SD.wet.length cv) := ((unhide ks9).cell 1).trans rfl
           have tks92 : w9.cell? ⟨w7.heap.size, 2, none⟩ = some (.int .i64 SD.left) := ((unhide ks9).cell 2).trans rfl
           have ykc9 : w8.heap.size < w9.heap.size := (unhide kc9).lt
           have tkc90 : w9.cell? ⟨w8.heap.size, 0, none⟩ = some (.slice Ap CD.dry.length cp) := ((unhide kc9).cell 0).trans rfl
           have tkc91 : w9.cell? ⟨w8.heap.size, 1, none⟩ = some (.slice Aq CD.wet.length cq) := ((unhide kc9).cell 1).trans rfl
           have tkc92 : w9.cell? ⟨w8.heap.size, 2, none⟩ = some (.int .i64 CD.left) := ((unhide kc9).cell 2).trans rfl
           clear tkb80 tkb81 tkb82 tkw80 tkw81 tkw82 tks80 tks81 tks82
           obtain ⟨A9, c9, rfl, hx9'⟩ := id hx9
           clear hx9'
           replace hx9 := hide hx9
           have tok7 : True := trivial)
        | (go_at_call 23; have _t := tok7; refine (unhide hsb _ _ HB9 (unhide hx9)).mono ?_; rintro e w9' ⟨rfl, rfl⟩; clear tok7 _t
    )
        | fail)
      go_ret
      exact ⟨rfl, by (repeat (first | with_reducible exact Below.refl _ _ | with_reducible assumption | with_reducible refine Below.drew ?_ | with_reducible refine bl_alloc ?_ _ | with_reducible refine bl_call ?_ (by assumption) | (focus (with_reducible refine Below.setCell ?_ ?_ _; rotate_left; focus (first | omega | (simp <;> omega)))) | fail))⟩
end Go.Proofs.Ytcgfcdbchcehmaa
