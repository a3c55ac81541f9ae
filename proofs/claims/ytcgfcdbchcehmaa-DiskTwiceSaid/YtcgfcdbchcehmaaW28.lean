import Derived.Test.YtcgfcdbchcehmaaW26
namespace Go.Proofs.Ytcgfcdbchcehmaa
open Go.RowKit

set_option maxRecDepth 100000 in
set_option maxHeartbeats 8000000 in
theorem twice_ret (A A' A1 A2 A3 A4 : Option Addr) (c c' c1 c2 c3 c4 : Nat) (d : Dk) (ms more : List UInt8) (at_ o_ : Int) (a b : List UInt8) (w : World)
    (h : Dsk 0 w.heap.size w (.agg #[.slice A d.dry.length c, .slice A' d.wet.length c', .int .i64 d.left]) d) (hm : Bs 0 w.heap.size w (.slice A1 ms.length c1) ms) (hmo : Bs 0 w.heap.size w (.slice A2 more.length c2) more) (hba : Bs 0 w.heap.size w (.slice A3 a.length c3) a) (hbb : Bs 0 w.heap.size w (.slice A4 b.length c4) b)
    (hf : fewB d = true) (h1 : ms.length ≤ 300) (h2 : more.length ≤ 300) (h3 : a.length ≤ 100) (h4 : b.length ≤ 100) (hl1 : d.left = -1) (hok : okD d = true) (hE : wrB d at_ a.length = false ∨ (wrB d at_ a.length = true ∧ wrB d o_ b.length = false)) :
    Calls Try.prog 7 #[.agg #[.slice A d.dry.length c, .slice A' d.wet.length c', .int .i64 d.left], .slice A1 ms.length c1, .slice A2 more.length c2, .int .i64 at_, .int .i64 o_, .slice A3 a.length c3, .slice A4 b.length c4] w fun e w' => e = .returned (.bool true) ∧ Below w.heap.size w w' := by
  obtain ⟨fl, fw60⟩ := few_sixty' hf
  have fw : d.wet.length ≤ 1000 := by omega
  have hfw : ∀ W, Below w.heap.size w W → Calls Try.prog 10 #[.agg #[.slice A d.dry.length c, .slice A' d.wet.length c', .int .i64 d.left]] W fun e w' => e = .returned (.bool true) ∧ Below W.heap.size W w' :=
    fun W hB => by have := few_any 0 _ d W ((h.below hB (Nat.le_refl _)).mono (Nat.le_refl _) hB.size); rwa [hf] at this
  have i1 : ¬ (300 : Int) < (ms.length : Int) := by omega
  have i2 : ¬ (300 : Int) < (more.length : Int) := by omega
  have i3 : ¬ (100 : Int) < (a.length : Int) := by omega
  have i4 : ¬ (100 : Int) < (b.length : Int) := by omega
  have hleft : (d.left != -1) = false := by rw [hl1]; rfl
  have hl0 : d.left ≠ 0 := by omega
  obtain ⟨CD, hCD⟩ : ∃ x, x = (crD d ms).1 := ⟨_, rfl⟩
  obtain ⟨EC, hEC⟩ : ∃ x, x = (crD d ms).2 := ⟨_, rfl⟩
  obtain ⟨XD, hXD⟩ : ∃ x, x = (wrD d at_ a).1 := ⟨_, rfl⟩
  obtain ⟨EX, hEX⟩ : ∃ x, x = (wrD d at_ a).2 := ⟨_, rfl⟩
  obtain ⟨YD, hYD⟩ : ∃ x, x = (wrD d o_ b).1 := ⟨_, rfl⟩
  obtain ⟨EY, hEY⟩ : ∃ x, x = (wrD d o_ b).2 := ⟨_, rfl⟩
  have hcr : ∀ W, Below w.heap.size w W → Calls Try.prog 27 #[.agg #[.slice A d.dry.length c, .slice A' d.wet.length c', .int .i64 d.left], .slice A1 ms.length c1] W fun e w' => ∃ v', e = .returned (.tuple #[v', .int .i64 EC]) ∧ Dsk W.heap.size w'.heap.size w' v' CD ∧ Below W.heap.size W w' :=
    fun W hB => (crash_any 0 _ _ d ms W ((h.below hB (Nat.le_refl _)).mono (Nat.le_refl _) hB.size) ((hm.below hB (Nat.le_refl _)).mono (Nat.le_refl _) hB.size) fl fw).mono fun e w' ⟨v', E, h1, h2, h3, h4⟩ => by
      rw [← hCD] at h2
      rw [h3, ← hEC] at h1
      exact ⟨v', h1, h2, h4⟩
  have hwx : ∀ W, Below w.heap.size w W → Calls Try.prog 12 #[.agg #[.slice A d.dry.length c, .slice A' d.wet.length c', .int .i64 d.left], .int .i64 at_, .slice A3 a.length c3] W fun e w' => ∃ v', e = .returned (.tuple #[v', .int .i64 EX]) ∧ Dsk W.heap.size w'.heap.size w' v' XD ∧ Below W.heap.size W w' :=
    fun W hB => (write_any 0 _ _ d at_ a W ((h.below hB (Nat.le_refl _)).mono (Nat.le_refl _) hB.size) ((hba.below hB (Nat.le_refl _)).mono (Nat.le_refl _) hB.size) fl fw).mono fun e w' ⟨v', E, h1, h2, h3, h4⟩ => by
      rw [← hXD] at h2
      rw [h3, ← hEX] at h1
      exact ⟨v', h1, h2, h4⟩
  have hwy : ∀ W, Below w.heap.size w W → Calls Try.prog 12 #[.agg #[.slice A d.dry.length c, .slice A' d.wet.length c', .int .i64 d.left], .int .i64 o_, .slice A4 b.length c4] W fun e w' => ∃ v', e = .returned (.tuple #[v', .int .i64 EY]) ∧ Dsk W.heap.size w'.heap.size w' v' YD ∧ Below W.heap.size W w' :=
    fun W hB => (write_any 0 _ _ d o_ b W ((h.below hB (Nat.le_refl _)).mono (Nat.le_refl _) hB.size) ((hbb.below hB (Nat.le_refl _)).mono (Nat.le_refl _) hB.size) fl fw).mono fun e w' ⟨v', E, h1, h2, h3, h4⟩ => by
      rw [← hYD] at h2
      rw [h3, ← hEY] at h1
      exact ⟨v', h1, h2, h4⟩
  have e1 : EC = 0 := by rw [hEC]; simp [crD, hok]
  subst e1
  have hC2 : crD CD more = (CD, 0) := by rw [hCD]; exact crash_twice hok ms more
  have hCf : CD = ⟨crAt d.dry d.wet ms (min d.wet.length ms.length), [], -1⟩ := by rw [hCD]; simp [crD, hok]
  have fl1 : CD.dry.length ≤ 1000000 := by rw [hCf]; simp only [crAt_length d.dry d.wet ms (min d.wet.length ms.length) (okD_ok hok).2]; exact fl
  have fw1 : CD.wet.length ≤ 1000 := by rw [hCf]; simp
  have fw1' : CD.wet.length ≤ 1000000 := by omega
  have e2 : (EX = 1) ∨ (EX = 0 ∧ EY = 1) := by
    rw [hEX, hEY]
    rcases hE with hE | ⟨hE, hE'⟩
    · exact .inl (by simp [wrD, hE])
    · exact .inr ⟨by simp [wrD, hE, hl0], by simp [wrD, hE']⟩
  replace hfw := hide hfw; replace hcr := hide hcr; replace hwx := hide hwx; replace hwy := hide hwy; replace hmo := hide hmo; replace hba := hide hba; replace hbb := hide hbb; replace hCD := hide hCD; replace hXD := hide hXD; replace hYD := hide hYD
  replace hC2 := hide hC2; replace hCf := hide hCf; replace fl1 := hide fl1; replace fw1 := hide fw1; replace fw1' := hide fw1'
  clear h hm hf hok hEC hEX hEY hl0 hl1 fl fw fw60 hE
  rcases e2 with rfl | ⟨rfl, rfl⟩
  · go_enter Try.func7, Try.ntmps7
    go_wp2_with (first
      | (go_at_call 9; refine (live_any _).mono ?_; rintro e w1 ⟨rfl, hb1⟩
         have HB1 : Below w.heap.size w w1 := bl_call (by (repeat (first | with_reducible exact Below.refl _ _ | with_reducible assumption | with_reducible refine Below.drew ?_ | with_reducible refine bl_alloc ?_ _ | with_reducible refine bl_call ?_ (by assumption) | (focus (with_reducible refine Below.setCell ?_ ?_ _; rotate_left; focus (first | omega | (simp <;> omega)))) | fail))) hb1
         have kb1 := hide (Blk.below (g := w.heap.size) (t := 25) (cs := #[.slice A d.dry.length c, .slice A' d.wet.length c', .int .i64 d.left]) (Blk.new rfl) hb1 (by simp))
         have ykb1 : w.heap.size < w1.heap.size := (unhide kb1).lt
         have tkb10 : w1.cell? ⟨w.heap.size, 0, none⟩ = some (.slice A d.dry.length c) := ((unhide kb1).cell 0).trans rfl
         have tkb11 : w1.cell? ⟨w.heap.size, 1, none⟩ = some (.slice A' d.wet.length c') := ((unhide kb1).cell 1).trans rfl
         have tkb12 : w1.cell? ⟨w.heap.size, 2, none⟩ = some (.int .i64 d.left) := ((unhide kb1).cell 2).trans rfl)
      | (go_at_call 10; refine (unhide hfw _ HB1).mono ?_; rintro e w2 ⟨rfl, hb2⟩
         have HB2 : Below w.heap.size w w2 := bl_call HB1 hb2
         have kb2 := hide (Blk.below (unhide kb1) hb2 ykb1)
         have ykb2 : w.heap.size < w2.heap.size := (unhide kb2).lt
         have tkb20 : w2.cell? ⟨w.heap.size, 0, none⟩ = some (.slice A d.dry.length c) := ((unhide kb2).cell 0).trans rfl
         have tkb21 : w2.cell? ⟨w.heap.size, 1, none⟩ = some (.slice A' d.wet.length c') := ((unhide kb2).cell 1).trans rfl
         have tkb22 : w2.cell? ⟨w.heap.size, 2, none⟩ = some (.int .i64 d.left) := ((unhide kb2).cell 2).trans rfl
         clear tkb10 tkb11 tkb12
         have tok1 : True := trivial)
      | (go_at_call 27; have _t := tok1; refine (unhide hcr _ HB2).mono ?_; rintro e w3 ⟨v3, rfl, hd3, hb3⟩; clear tok1 _t
         have HB3 : Below w.heap.size w w3 := bl_call HB2 hb3
         obtain ⟨Ap, cp, Aq, cq, rfl⟩ := hd3.form
         have kb3 := hide (Blk.below (unhide kb2) hb3 ykb2)
         have ykb3 : w.heap.size < w3.heap.size := (unhide kb3).lt
         have tkb30 : w3.cell? ⟨w.heap.size, 0, none⟩ = some (.slice A d.dry.length c) := ((unhide kb3).cell 0).trans rfl
         have tkb31 : w3.cell? ⟨w.heap.size, 1, none⟩ = some (.slice A' d.wet.length c') := ((unhide kb3).cell 1).trans rfl
         have tkb32 : w3.cell? ⟨w.heap.size, 2, none⟩ = some (.int .i64 d.left) := ((unhide kb3).cell 2).trans rfl
         clear tkb20 tkb21 tkb22
         replace hd3 := hide hd3
         have tok2 : True := trivial)
      | (go_at_call 27; have _t := tok2; refine (crash_any 0 _ _ CD more _ (((unhide hd3).below (bl_alloc (Below.refl _ _) _) (Nat.le_refl _)).mono (Nat.zero_le _) (by simp)) (((unhide hmo).below (bl_alloc HB3 _) (Nat.le_refl _)).mono (Nat.le_refl _) (bl_alloc HB3 _).size) (unhide fl1) (unhide fw1)).mono ?_; rintro e w4 ⟨v4, E, rfl, hd4, hE4, hb4⟩; clear tok2 _t
         rw [unhide hC2] at hd4 hE4
         obtain rfl : E = 0 := hE4
         have HB4 : Below w.heap.size w w4 := bl_call (bl_alloc HB3 _) hb4
         obtain ⟨Ar, cr, As, cs, rfl⟩ := hd4.form
         have kb4 := hide (Blk.below ((unhide kb3).alloc _) hb4 (by simp; omega))
         have kc4 := hide (Blk.below (g := w3.heap.size) (t := 25) (cs := #[.slice Ap CD.dry.length cp, .slice Aq CD.wet.length cq, .int .i64 CD.left]) (Blk.new rfl) hb4 (by simp))
         have ykb4 : w.heap.size < w4.heap.size := (unhide kb4).lt
         have tkb40 : w4.cell? ⟨w.heap.size, 0, none⟩ = some (.slice A d.dry.length c) := ((unhide kb4).cell 0).trans rfl
         have tkb41 : w4.cell? ⟨w.heap.size, 1, none⟩ = some (.slice A' d.wet.length c') := ((unhide kb4).cell 1).trans rfl
         have tkb42 : w4.cell? ⟨w.heap.size, 2, none⟩ = some (.int .i64 d.left) := ((unhide kb4).cell 2).trans rfl
         have ykc4 : w3.heap.size < w4.heap.size := (unhide kc4).lt
         have tkc40 : w4.cell? ⟨w3.heap.size, 0, none⟩ = some (.slice Ap CD.dry.length cp) := ((unhide kc4).cell 0).trans rfl
         have tkc41 : w4.cell? ⟨w3.heap.size, 1, none⟩ = some (.slice Aq CD.wet.length cq) := ((unhide kc4).cell 1).trans rfl
         have tkc42 : w4.cell? ⟨w3.heap.size, 2, none⟩ = some (.int .i64 CD.left) := ((unhide kc4).cell 2).trans rfl
         clear tkb30 tkb31 tkb32
         have hd3' := hide (((unhide hd3).below (bl_call (bl_alloc (Below.refl _ _) _) hb4) (Nat.le_refl _)).mono (Nat.zero_le _) (Nat.le_of_lt ykc4))
         replace hd4 := hide hd4
         have tok3 : True := trivial)
      | (go_at_call 26; have _t := tok3; refine (same_true 0 0 _ _ CD _ (((unhide hd4).below (bl_alloc (Below.refl _ _) _) (Nat.le_refl _)).mono (Nat.zero_le _) (by simp)) (((unhide hd3').below (bl_alloc (Below.refl _ _) _) (Nat.le_refl _)).mono (Nat.zero_le _) (by simp)) (unhide fw1')).mono ?_; rintro e w5 ⟨rfl, hb5⟩; clear tok3 _t
         have HB5 : Below w.heap.size w w5 := bl_call (bl_alloc HB4 _) hb5
         have kb5 := hide (Blk.below ((unhide kb4).alloc _) hb5 (by simp; omega))
         have kc5 := hide (Blk.below ((unhide kc4).alloc _) hb5 (by simp; omega))
         have ka5 := hide (Blk.below (g := w4.heap.size) (t := 25) (cs := #[.slice Ar CD.dry.length cr, .slice As CD.wet.length cs, .int .i64 CD.left]) (Blk.new rfl) hb5 (by simp))
         have ykb5 : w.heap.size < w5.heap.size := (unhide kb5).lt
         have tkb50 : w5.cell? ⟨w.heap.size, 0, none⟩ = some (.slice A d.dry.length c) := ((unhide kb5).cell 0).trans rfl
         have tkb51 : w5.cell? ⟨w.heap.size, 1, none⟩ = some (.slice A' d.wet.length c') := ((unhide kb5).cell 1).trans rfl
         have tkb52 : w5.cell? ⟨w.heap.size, 2, none⟩ = some (.int .i64 d.left) := ((unhide kb5).cell 2).trans rfl
         have ykc5 : w3.heap.size < w5.heap.size := (unhide kc5).lt
         have tkc50 : w5.cell? ⟨w3.heap.size, 0, none⟩ = some (.slice Ap CD.dry.length cp) := ((unhide kc5).cell 0).trans rfl
         have tkc51 : w5.cell? ⟨w3.heap.size, 1, none⟩ = some (.slice Aq CD.wet.length cq) := ((unhide kc5).cell 1).trans rfl
         have tkc52 : w5.cell? ⟨w3.heap.size, 2, none⟩ = some (.int .i64 CD.left) := ((unhide kc5).cell 2).trans rfl
         have yka5 : w4.heap.size < w5.heap.size := (unhide ka5).lt
         have tka50 : w5.cell? ⟨w4.heap.size, 0, none⟩ = some (.slice Ar CD.dry.length cr) := ((unhide ka5).cell 0).trans rfl
         have tka51 : w5.cell? ⟨w4.heap.size, 1, none⟩ = some (.slice As CD.wet.length cs) := ((unhide ka5).cell 1).trans rfl
         have tka52 : w5.cell? ⟨w4.heap.size, 2, none⟩ = some (.int .i64 CD.left) := ((unhide ka5).cell 2).trans rfl
         clear tkb40 tkb41 tkb42 tkc40 tkc41 tkc42
         have tok4 : True := trivial)
      | (go_at_call 12; have _t := tok4; refine (unhide hwx _ HB5).mono ?_; rintro e w6 ⟨v6, rfl, hd6, hb6⟩; clear tok4 _t
         have HB6 : Below w.heap.size w w6 := bl_call HB5 hb6
         obtain ⟨Ax, cx, Bx, ex, rfl⟩ := hd6.form
         have kb6 := hide (Blk.below (unhide kb5) hb6 ykb5)
         have kc6 := hide (Blk.below (unhide kc5) hb6 ykc5)
         have ka6 := hide (Blk.below (unhide ka5) hb6 yka5)
         have ykb6 : w.heap.size < w6.heap.size := (unhide kb6).lt
         have tkb60 : w6.cell? ⟨w.heap.size, 0, none⟩ = some (.slice A d.dry.length c) := ((unhide kb6).cell 0).trans rfl
         have tkb61 : w6.cell? ⟨w.heap.size, 1, none⟩ = some (.slice A' d.wet.length c') := ((unhide kb6).cell 1).trans rfl
         have tkb62 : w6.cell? ⟨w.heap.size, 2, none⟩ = some (.int .i64 d.left) := ((unhide kb6).cell 2).trans rfl
         have ykc6 : w3.heap.size < w6.heap.size := (unhide kc6).lt
         have tkc60 : w6.cell? ⟨w3.heap.size, 0, none⟩ = some (.slice Ap CD.dry.length cp) := ((unhide kc6).cell 0).trans rfl
         have tkc61 : w6.cell? ⟨w3.heap.size, 1, none⟩ = some (.slice Aq CD.wet.length cq) := ((unhide kc6).cell 1).trans rfl
         have tkc62 : w6.cell? ⟨w3.heap.size, 2, none⟩ = some (.int .i64 CD.left) := ((unhide kc6).cell 2).trans rfl
         have yka6 : w4.heap.size < w6.heap.size := (unhide ka6).lt
         have tka60 : w6.cell? ⟨w4.heap.size, 0, none⟩ = some (.slice Ar CD.dry.length cr) := ((unhide ka6).cell 0).trans rfl
         have tka61 : w6.cell? ⟨w4.heap.size, 1, none⟩ = some (.slice As CD.wet.length cs) := ((unhide ka6).cell 1).trans rfl
         have tka62 : w6.cell? ⟨w4.heap.size, 2, none⟩ = some (.int .i64 CD.left) := ((unhide ka6).cell 2).trans rfl
         clear tkb50 tkb51 tkb52 tkc50 tkc51 tkc52 tka50 tka51 tka52
         replace hd6 := hide hd6
         have tok5 : True := trivial)
      | (go_at_call 12; have _t := tok5; refine (unhide hwy _ (bl_alloc HB6 _)).mono ?_; rintro e w7 ⟨v7, rfl, hd7, hb7⟩; clear tok5 _t
         have HB7 : Below w.heap.size w w7 := bl_call (bl_alloc HB6 _) hb7
         obtain ⟨Ay, cy, By, ey, rfl⟩ := hd7.form
         have kb7 := hide (Blk.below ((unhide kb6).alloc _) hb7 (by simp; omega))
         have kc7 := hide (Blk.below ((unhide kc6).alloc _) hb7 (by simp; omega))
         have ka7 := hide (Blk.below ((unhide ka6).alloc _) hb7 (by simp; omega))
         have kx7 := hide (Blk.below (g := w6.heap.size) (t := 25) (cs := #[.slice Ax XD.dry.length cx, .slice Bx XD.wet.length ex, .int .i64 XD.left]) (Blk.new rfl) hb7 (by simp))
         have ykb7 : w.heap.size < w7.heap.size := (unhide kb7).lt
         have tkb70 : w7.cell? ⟨w.heap.size, 0, none⟩ = some (.slice A d.dry.length c) := ((unhide kb7).cell 0).trans rfl
         have tkb71 : w7.cell? ⟨w.heap.size, 1, none⟩ = some (.slice A' d.wet.length c') := ((unhide kb7).cell 1).trans rfl
         have tkb72 : w7.cell? ⟨w.heap.size, 2, none⟩ = some (.int .i64 d.left) := ((unhide kb7).cell 2).trans rfl
         have ykc7 : w3.heap.size < w7.heap.size := (unhide kc7).lt
         have tkc70 : w7.cell? ⟨w3.heap.size, 0, none⟩ = some (.slice Ap CD.dry.length cp) := ((unhide kc7).cell 0).trans rfl
         have tkc71 : w7.cell? ⟨w3.heap.size, 1, none⟩ = some (.slice Aq CD.wet.length cq) := ((unhide kc7).cell 1).trans rfl
         have tkc72 : w7.cell? ⟨w3.heap.size, 2, none⟩ = some (.int .i64 CD.left) := ((unhide kc7).cell 2).trans rfl
         have yka7 : w4.heap.size < w7.heap.size := (unhide ka7).lt
         have tka70 : w7.cell? ⟨w4.heap.size, 0, none⟩ = some (.slice Ar CD.dry.length cr) := ((unhide ka7).cell 0).trans rfl
         have tka71 : w7.cell? ⟨w4.heap.size, 1, none⟩ = some (.slice As CD.wet.length cs) := ((unhide ka7).cell 1).trans rfl
         have tka72 : w7.cell? ⟨w4.heap.size, 2, none⟩ = some (.int .i64 CD.left) := ((unhide ka7).cell 2).trans rfl
         have ykx7 : w6.heap.size < w7.heap.size := (unhide kx7).lt
         have tkx70 : w7.cell? ⟨w6.heap.size, 0, none⟩ = some (.slice Ax XD.dry.length cx) := ((unhide kx7).cell 0).trans rfl
         have tkx71 : w7.cell? ⟨w6.heap.size, 1, none⟩ = some (.slice Bx XD.wet.length ex) := ((unhide kx7).cell 1).trans rfl
         have tkx72 : w7.cell? ⟨w6.heap.size, 2, none⟩ = some (.int .i64 XD.left) := ((unhide kx7).cell 2).trans rfl
         clear tkb60 tkb61 tkb62 tkc60 tkc61 tkc62 tka60 tka61 tka62
         have hd6' := hide (((unhide hd6).below (bl_call (bl_alloc (Below.refl _ _) _) hb7) (Nat.le_refl _)).mono (Nat.zero_le _) (Nat.le_of_lt ykx7))
         replace hd7 := hide hd7
         have tok6 : True := trivial)
      | fail)
    go_ret
    exact ⟨rfl, by (repeat (first | with_reducible exact Below.refl _ _ | with_reducible assumption | with_reducible refine Below.drew ?_ | with_reducible refine bl_alloc ?_ _ | with_reducible refine bl_call ?_ (by assumption) | (focus (with_reducible refine Below.setCell ?_ ?_ _; rotate_left; focus (first | omega | (simp <;> omega)))) | fail))⟩
  · go_enter Try.func7, Try.ntmps7
    go_wp2_with (first
      | (go_at_call 9; refine (live_any _).mono ?_; rintro e w1 ⟨rfl, hb1⟩
         have HB1 : Below w.heap.size w w1 := bl_call (by (repeat (first | with_reducible exact Below.refl _ _ | with_reducible assumption | with_reducible refine Below.drew ?_ | with_reducible refine bl_alloc ?_ _ | with_reducible refine bl_call ?_ (by assumption) | (focus (with_reducible refine Below.setCell ?_ ?_ _; rotate_left; focus (first | omega | (simp <;> omega)))) | fail))) hb1
         have kb1 := hide (Blk.below (g := w.heap.size) (t := 25) (cs := #[.slice A d.dry.length c, .slice A' d.wet.length c', .int .i64 d.left]) (Blk.new rfl) hb1 (by simp))
         have ykb1 : w.heap.size < w1.heap.size := (unhide kb1).lt
         have tkb10 : w1.cell? ⟨w.heap.size, 0, none⟩ = some (.slice A d.dry.length c) := ((unhide kb1).cell 0).trans rfl
         have tkb11 : w1.cell? ⟨w.heap.size, 1, none⟩ = some (.slice A' d.wet.length c') := ((unhide kb1).cell 1).trans rfl
         have tkb12 : w1.cell? ⟨w.heap.size, 2, none⟩ = some (.int .i64 d.left) := ((unhide kb1).cell 2).trans rfl)
      | (go_at_call 10; refine (unhide hfw _ HB1).mono ?_; rintro e w2 ⟨rfl, hb2⟩
         have HB2 : Below w.heap.size w w2 := bl_call HB1 hb2
         have kb2 := hide (Blk.below (unhide kb1) hb2 ykb1)
         have ykb2 : w.heap.size < w2.heap.size := (unhide kb2).lt
         have tkb20 : w2.cell? ⟨w.heap.size, 0, none⟩ = some (.slice A d.dry.length c) := ((unhide kb2).cell 0).trans rfl
         have tkb21 : w2.cell? ⟨w.heap.size, 1, none⟩ = some (.slice A' d.wet.length c') := ((unhide kb2).cell 1).trans rfl
         have tkb22 : w2.cell? ⟨w.heap.size, 2, none⟩ = some (.int .i64 d.left) := ((unhide kb2).cell 2).trans rfl
         clear tkb10 tkb11 tkb12
         have tok1 : True := trivial)
      | (go_at_call 27; have _t := tok1; refine (unhide hcr _ HB2).mono ?_; rintro e w3 ⟨v3, rfl, hd3, hb3⟩; clear tok1 _t
         have HB3 : Below w.heap.size w w3 := bl_call HB2 hb3
         obtain ⟨Ap, cp, Aq, cq, rfl⟩ := hd3.form
         have kb3 := hide (Blk.below (unhide kb2) hb3 ykb2)
         have ykb3 : w.heap.size < w3.heap.size := (unhide kb3).lt
         have tkb30 : w3.cell? ⟨w.heap.size, 0, none⟩ = some (.slice A d.dry.length c) := ((unhide kb3).cell 0).trans rfl
         have tkb31 : w3.cell? ⟨w.heap.size, 1, none⟩ = some (.slice A' d.wet.length c') := ((unhide kb3).cell 1).trans rfl
         have tkb32 : w3.cell? ⟨w.heap.size, 2, none⟩ = some (.int .i64 d.left) := ((unhide kb3).cell 2).trans rfl
         clear tkb20 tkb21 tkb22
         replace hd3 := hide hd3
         have tok2 : True := trivial)
      | (go_at_call 27; have _t := tok2; refine (crash_any 0 _ _ CD more _ (((unhide hd3).below (bl_alloc (Below.refl _ _) _) (Nat.le_refl _)).mono (Nat.zero_le _) (by simp)) (((unhide hmo).below (bl_alloc HB3 _) (Nat.le_refl _)).mono (Nat.le_refl _) (bl_alloc HB3 _).size) (unhide fl1) (unhide fw1)).mono ?_; rintro e w4 ⟨v4, E, rfl, hd4, hE4, hb4⟩; clear tok2 _t
         rw [unhide hC2] at hd4 hE4
         obtain rfl : E = 0 := hE4
         have HB4 : Below w.heap.size w w4 := bl_call (bl_alloc HB3 _) hb4
         obtain ⟨Ar, cr, As, cs, rfl⟩ := hd4.form
         have kb4 := hide (Blk.below ((unhide kb3).alloc _) hb4 (by simp; omega))
         have kc4 := hide (Blk.below (g := w3.heap.size) (t := 25) (cs := #[.slice Ap CD.dry.length cp, .slice Aq CD.wet.length cq, .int .i64 CD.left]) (Blk.new rfl) hb4 (by simp))
         have ykb4 : w.heap.size < w4.heap.size := (unhide kb4).lt
         have tkb40 : w4.cell? ⟨w.heap.size, 0, none⟩ = some (.slice A d.dry.length c) := ((unhide kb4).cell 0).trans rfl
         have tkb41 : w4.cell? ⟨w.heap.size, 1, none⟩ = some (.slice A' d.wet.length c') := ((unhide kb4).cell 1).trans rfl
         have tkb42 : w4.cell? ⟨w.heap.size, 2, none⟩ = some (.int .i64 d.left) := ((unhide kb4).cell 2).trans rfl
         have ykc4 : w3.heap.size < w4.heap.size := (unhide kc4).lt
         have tkc40 : w4.cell? ⟨w3.heap.size, 0, none⟩ = some (.slice Ap CD.dry.length cp) := ((unhide kc4).cell 0).trans rfl
         have tkc41 : w4.cell? ⟨w3.heap.size, 1, none⟩ = some (.slice Aq CD.wet.length cq) := ((unhide kc4).cell 1).trans rfl
         have tkc42 : w4.cell? ⟨w3.heap.size, 2, none⟩ = some (.int .i64 CD.left) := ((unhide kc4).cell 2).trans rfl
         clear tkb30 tkb31 tkb32
         have hd3' := hide (((unhide hd3).below (bl_call (bl_alloc (Below.refl _ _) _) hb4) (Nat.le_refl _)).mono (Nat.zero_le _) (Nat.le_of_lt ykc4))
         replace hd4 := hide hd4
         have tok3 : True := trivial)
      | (go_at_call 26; have _t := tok3; refine (same_true 0 0 _ _ CD _ (((unhide hd4).below (bl_alloc (Below.refl _ _) _) (Nat.le_refl _)).mono (Nat.zero_le _) (by simp)) (((unhide hd3').below (bl_alloc (Below.refl _ _) _) (Nat.le_refl _)).mono (Nat.zero_le _) (by simp)) (unhide fw1')).mono ?_; rintro e w5 ⟨rfl, hb5⟩; clear tok3 _t
         have HB5 : Below w.heap.size w w5 := bl_call (bl_alloc HB4 _) hb5
         have kb5 := hide (Blk.below ((unhide kb4).alloc _) hb5 (by simp; omega))
         have kc5 := hide (Blk.below ((unhide kc4).alloc _) hb5 (by simp; omega))
         have ka5 := hide (Blk.below (g := w4.heap.size) (t := 25) (cs := #[.slice Ar CD.dry.length cr, .slice As CD.wet.length cs, .int .i64 CD.left]) (Blk.new rfl) hb5 (by simp))
         have ykb5 : w.heap.size < w5.heap.size := (unhide kb5).lt
         have tkb50 : w5.cell? ⟨w.heap.size, 0, none⟩ = some (.slice A d.dry.length c) := ((unhide kb5).cell 0).trans rfl
         have tkb51 : w5.cell? ⟨w.heap.size, 1, none⟩ = some (.slice A' d.wet.length c') := ((unhide kb5).cell 1).trans rfl
         have tkb52 : w5.cell? ⟨w.heap.size, 2, none⟩ = some (.int .i64 d.left) := ((unhide kb5).cell 2).trans rfl
         have ykc5 : w3.heap.size < w5.heap.size := (unhide kc5).lt
         have tkc50 : w5.cell? ⟨w3.heap.size, 0, none⟩ = some (.slice Ap CD.dry.length cp) := ((unhide kc5).cell 0).trans rfl
         have tkc51 : w5.cell? ⟨w3.heap.size, 1, none⟩ = some (.slice Aq CD.wet.length cq) := ((unhide kc5).cell 1).trans rfl
         have tkc52 : w5.cell? ⟨w3.heap.size, 2, none⟩ = some (.int .i64 CD.left) := ((unhide kc5).cell 2).trans rfl
         have yka5 : w4.heap.size < w5.heap.size := (unhide ka5).lt
         have tka50 : w5.cell? ⟨w4.heap.size, 0, none⟩ = some (.slice Ar CD.dry.length cr) := ((unhide ka5).cell 0).trans rfl
         have tka51 : w5.cell? ⟨w4.heap.size, 1, none⟩ = some (.slice As CD.wet.length cs) := ((unhide ka5).cell 1).trans rfl
         have tka52 : w5.cell? ⟨w4.heap.size, 2, none⟩ = some (.int .i64 CD.left) := ((unhide ka5).cell 2).trans rfl
         clear tkb40 tkb41 tkb42 tkc40 tkc41 tkc42
         have tok4 : True := trivial)
      | (go_at_call 12; have _t := tok4; refine (unhide hwx _ HB5).mono ?_; rintro e w6 ⟨v6, rfl, hd6, hb6⟩; clear tok4 _t
         have HB6 : Below w.heap.size w w6 := bl_call HB5 hb6
         obtain ⟨Ax, cx, Bx, ex, rfl⟩ := hd6.form
         have kb6 := hide (Blk.below (unhide kb5) hb6 ykb5)
         have kc6 := hide (Blk.below (unhide kc5) hb6 ykc5)
         have ka6 := hide (Blk.below (unhide ka5) hb6 yka5)
         have ykb6 : w.heap.size < w6.heap.size := (unhide kb6).lt
         have tkb60 : w6.cell? ⟨w.heap.size, 0, none⟩ = some (.slice A d.dry.length c) := ((unhide kb6).cell 0).trans rfl
         have tkb61 : w6.cell? ⟨w.heap.size, 1, none⟩ = some (.slice A' d.wet.length c') := ((unhide kb6).cell 1).trans rfl
         have tkb62 : w6.cell? ⟨w.heap.size, 2, none⟩ = some (.int .i64 d.left) := ((unhide kb6).cell 2).trans rfl
         have ykc6 : w3.heap.size < w6.heap.size := (unhide kc6).lt
         have tkc60 : w6.cell? ⟨w3.heap.size, 0, none⟩ = some (.slice Ap CD.dry.length cp) := ((unhide kc6).cell 0).trans rfl
         have tkc61 : w6.cell? ⟨w3.heap.size, 1, none⟩ = some (.slice Aq CD.wet.length cq) := ((unhide kc6).cell 1).trans rfl
         have tkc62 : w6.cell? ⟨w3.heap.size, 2, none⟩ = some (.int .i64 CD.left) := ((unhide kc6).cell 2).trans rfl
         have yka6 : w4.heap.size < w6.heap.size := (unhide ka6).lt
         have tka60 : w6.cell? ⟨w4.heap.size, 0, none⟩ = some (.slice Ar CD.dry.length cr) := ((unhide ka6).cell 0).trans rfl
         have tka61 : w6.cell? ⟨w4.heap.size, 1, none⟩ = some (.slice As CD.wet.length cs) := ((unhide ka6).cell 1).trans rfl
         have tka62 : w6.cell? ⟨w4.heap.size, 2, none⟩ = some (.int .i64 CD.left) := ((unhide ka6).cell 2).trans rfl
         clear tkb50 tkb51 tkb52 tkc50 tkc51 tkc52 tka50 tka51 tka52
         replace hd6 := hide hd6
         have tok5 : True := trivial)
      | (go_at_call 12; have _t := tok5; refine (unhide hwy _ (bl_alloc HB6 _)).mono ?_; rintro e w7 ⟨v7, rfl, hd7, hb7⟩; clear tok5 _t
         have HB7 : Below w.heap.size w w7 := bl_call (bl_alloc HB6 _) hb7
         obtain ⟨Ay, cy, By, ey, rfl⟩ := hd7.form
         have kb7 := hide (Blk.below ((unhide kb6).alloc _) hb7 (by simp; omega))
         have kc7 := hide (Blk.below ((unhide kc6).alloc _) hb7 (by simp; omega))
         have ka7 := hide (Blk.below ((unhide ka6).alloc _) hb7 (by simp; omega))
         have kx7 := hide (Blk.below (g := w6.heap.size) (t := 25) (cs := #[.slice Ax XD.dry.length cx, .slice Bx XD.wet.length ex, .int .i64 XD.left]) (Blk.new rfl) hb7 (by simp))
         have ykb7 : w.heap.size < w7.heap.size := (unhide kb7).lt
         have tkb70 : w7.cell? ⟨w.heap.size, 0, none⟩ = some (.slice A d.dry.length c) := ((unhide kb7).cell 0).trans rfl
         have tkb71 : w7.cell? ⟨w.heap.size, 1, none⟩ = some (.slice A' d.wet.length c') := ((unhide kb7).cell 1).trans rfl
         have tkb72 : w7.cell? ⟨w.heap.size, 2, none⟩ = some (.int .i64 d.left) := ((unhide kb7).cell 2).trans rfl
         have ykc7 : w3.heap.size < w7.heap.size := (unhide kc7).lt
         have tkc70 : w7.cell? ⟨w3.heap.size, 0, none⟩ = some (.slice Ap CD.dry.length cp) := ((unhide kc7).cell 0).trans rfl
         have tkc71 : w7.cell? ⟨w3.heap.size, 1, none⟩ = some (.slice Aq CD.wet.length cq) := ((unhide kc7).cell 1).trans rfl
         have tkc72 : w7.cell? ⟨w3.heap.size, 2, none⟩ = some (.int .i64 CD.left) := ((unhide kc7).cell 2).trans rfl
         have yka7 : w4.heap.size < w7.heap.size := (unhide ka7).lt
         have tka70 : w7.cell? ⟨w4.heap.size, 0, none⟩ = some (.slice Ar CD.dry.length cr) := ((unhide ka7).cell 0).trans rfl
         have tka71 : w7.cell? ⟨w4.heap.size, 1, none⟩ = some (.slice As CD.wet.length cs) := ((unhide ka7).cell 1).trans rfl
         have tka72 : w7.cell? ⟨w4.heap.size, 2, none⟩ = some (.int .i64 CD.left) := ((unhide ka7).cell 2).trans rfl
         have ykx7 : w6.heap.size < w7.heap.size := (unhide kx7).lt
         have tkx70 : w7.cell? ⟨w6.heap.size, 0, none⟩ = some (.slice Ax XD.dry.length cx) := ((unhide kx7).cell 0).trans rfl
         have tkx71 : w7.cell? ⟨w6.heap.size, 1, none⟩ = some (.slice Bx XD.wet.length ex) := ((unhide kx7).cell 1).trans rfl
         have tkx72 : w7.cell? ⟨w6.heap.size, 2, none⟩ = some (.int .i64 XD.left) := ((unhide kx7).cell 2).trans rfl
         clear tkb60 tkb61 tkb62 tkc60 tkc61 tkc62 tka60 tka61 tka62
         have hd6' := hide (((unhide hd6).below (bl_call (bl_alloc (Below.refl _ _) _) hb7) (Nat.le_refl _)).mono (Nat.zero_le _) (Nat.le_of_lt ykx7))
         replace hd7 := hide hd7
         have tok6 : True := trivial)
      | fail)
    go_ret
    exact ⟨rfl, by (repeat (first | with_reducible exact Below.refl _ _ | with_reducible assumption | with_reducible refine Below.drew ?_ | with_reducible refine bl_alloc ?_ _ | with_reducible refine bl_call ?_ (by assumption) | (focus (with_reducible refine Below.setCell ?_ ?_ _; rotate_left; focus (first | omega | (simp <;> omega)))) | fail))⟩
end Go.Proofs.Ytcgfcdbchcehmaa
