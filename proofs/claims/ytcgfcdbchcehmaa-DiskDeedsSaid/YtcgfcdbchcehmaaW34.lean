import Derived.Test.YtcgfcdbchcehmaaW33
namespace Go.Proofs.Ytcgfcdbchcehmaa
open Go.RowKit

theorem Dsk.put3 {lo hi : Nat} {w : World} {v : Value} {d : Dk} (h : Dsk lo hi w v d) {g : Nat} (hg : g < lo) (x y z : Value) : Dsk lo hi (((w.setCell ⟨g, 0, none⟩ x).setCell ⟨g, 1, none⟩ y).setCell ⟨g, 2, none⟩ z) v d :=
  h.keep ((((Agree.refl _ _ _).setCell (p := ⟨g, 0, none⟩) hg x).setCell (p := ⟨g, 1, none⟩) hg y).setCell (p := ⟨g, 2, none⟩) hg z)

set_option maxRecDepth 100000 in
set_option maxHeartbeats 8000000 in
theorem deeds_go (A A' A3 : Option Addr) (c c' c3 : Nat) (d : Dk) (m : Int) (l : List UInt8) (w : World)
    (h : Dsk 0 w.heap.size w (.agg #[.slice A d.dry.length c, .slice A' d.wet.length c', .int .i64 d.left]) d) (hbl : Bs 0 w.heap.size w (.slice A3 l.length c3) l)
    (hf : fewB d = true) (hl : l.length ≤ 60) (hq : okD d = true) (hm : leftB m = true) :
    Calls Try.prog 8 #[.agg #[.slice A d.dry.length c, .slice A' d.wet.length c', .int .i64 d.left], .int .i64 m, .slice A3 l.length c3] w fun e w' => e = .returned (.bool true) ∧ Below w.heap.size w w' := by
  obtain ⟨fl, fw60⟩ := few_sixty hf
  have hfw : ∀ W, Below w.heap.size w W → Calls Try.prog 10 #[.agg #[.slice A d.dry.length c, .slice A' d.wet.length c', .int .i64 d.left]] W fun e w' => e = .returned (.bool true) ∧ Below W.heap.size W w' :=
    fun W hB => by have := few_any 0 _ d W ((h.below hB (Nat.le_refl _)).mono (Nat.le_refl _) hB.size); rwa [hf] at this
  have hlm : ∀ W, Below w.heap.size w W → Calls Try.prog 20 #[.agg #[.slice A d.dry.length c, .slice A' d.wet.length c', .int .i64 d.left], .int .i64 m] W fun e w' => ∃ Ax cx Ay cy, e = .returned (.tuple #[.agg #[.slice Ax d.dry.length cx, .slice Ay d.wet.length cy, .int .i64 m], .int .i64 0]) ∧ Dsk W.heap.size w'.heap.size w' (.agg #[.slice Ax d.dry.length cx, .slice Ay d.wet.length cy, .int .i64 m]) ⟨d.dry, d.wet, m⟩ ∧ Below W.heap.size W w' :=
    fun W hB => limit_good 0 _ d m W ((h.below hB (Nat.le_refl _)).mono (Nat.le_refl _) hB.size) hq hm fl (by omega)
  have hG0 : Going d ⟨d.dry, d.wet, m⟩ m 0 := ⟨okD_make (okD_parts hq).1 (okD_parts hq).2.1 (okD_parts hq).2.2.1 hm (okD_parts hq).2.2.2.2.1 (okD_mem hq), rfl, Nat.le_refl _, id⟩
  have hl' : ¬ (60 : Int) < (l.length : Int) := by omega
  replace hfw := hide hfw; replace hlm := hide hlm; replace hG0 := hide hG0; replace hbl := hide hbl
  clear h hf hq hm
  obtain ⟨i1, hi1, hy0, hy1, hy2⟩ := info_parts info5b
  have hmk : ∀ W : World, (Instr.makeSlice 22 (.int .i64 32) (.int .i64 32)).run Try.prog W = .ok (.slice (some ⟨W.heap.size, 0, none⟩) 32 32) (W.alloc (.cells #[.int .u8 0, .int .u8 0, .int .u8 0, .int .u8 0, .int .u8 0, .int .u8 0, .int .u8 0, .int .u8 0, .int .u8 0, .int .u8 0, .int .u8 0, .int .u8 0, .int .u8 0, .int .u8 0, .int .u8 0, .int .u8 0, .int .u8 0, .int .u8 0, .int .u8 0, .int .u8 0, .int .u8 0, .int .u8 0, .int .u8 0, .int .u8 0, .int .u8 0, .int .u8 0, .int .u8 0, .int .u8 0, .int .u8 0, .int .u8 0, .int .u8 0, .int .u8 0] 5)) := by
    intro W
    have h := run_mk (P := Try.prog) 22 5 i1 _ 1 Try.underlying22 hi1 hy0 hy1 32 (by rw [hy2]; omega) (by omega) W
    rw [show madeCells (Value.int .u8 0).cells (32 * 1) = #[.int .u8 0, .int .u8 0, .int .u8 0, .int .u8 0, .int .u8 0, .int .u8 0, .int .u8 0, .int .u8 0, .int .u8 0, .int .u8 0, .int .u8 0, .int .u8 0, .int .u8 0, .int .u8 0, .int .u8 0, .int .u8 0, .int .u8 0, .int .u8 0, .int .u8 0, .int .u8 0, .int .u8 0, .int .u8 0, .int .u8 0, .int .u8 0, .int .u8 0, .int .u8 0, .int .u8 0, .int .u8 0, .int .u8 0, .int .u8 0, .int .u8 0, .int .u8 0] from by kernel_rfl] at h
    exact h
  clear hy0 hy1 hy2 hi1
  replace fl := hide fl; replace fw60 := hide fw60
  go_enter Try.func8, Try.ntmps8
  go_wp2_with (first
    | (go_at_call 9; refine (live_any _).mono ?_; rintro e w1 ⟨rfl, hb1⟩; have HB1 : Below w.heap.size w w1 := bl_call (by (repeat (first | with_reducible exact Below.refl _ _ | with_reducible assumption | with_reducible refine Below.drew ?_ | with_reducible refine bl_alloc ?_ _ | with_reducible refine bl_call ?_ (by assumption) | (focus (with_reducible refine Below.setCell ?_ ?_ _; rotate_left; focus (first | omega | (simp <;> omega)))) | fail))) hb1
       have kb1 := hide (Blk.below (g := w.heap.size) (t := 25) (cs := #[.slice A d.dry.length c, .slice A' d.wet.length c', .int .i64 d.left]) (Blk.new rfl) hb1 (by simp))
       have ykb1 : w.heap.size < w1.heap.size := (unhide kb1).lt
       have tkb10 : w1.cell? ⟨w.heap.size, 0, none⟩ = some (.slice A d.dry.length c) := ((unhide kb1).cell 0).trans rfl
       have tkb11 : w1.cell? ⟨w.heap.size, 1, none⟩ = some (.slice A' d.wet.length c') := ((unhide kb1).cell 1).trans rfl
       have tkb12 : w1.cell? ⟨w.heap.size, 2, none⟩ = some (.int .i64 d.left) := ((unhide kb1).cell 2).trans rfl)
    | (go_at_call 10; refine (unhide hfw _ HB1).mono ?_; rintro e w2 ⟨rfl, hb2⟩
       have HB2 : Below w.heap.size w w2 := bl_call HB1 hb2
       have kb2 := hide (Blk.below (unhide kb1) hb2 ykb1)
       have ykb2 : w.heap.size < w2.heap.size := (unhide kb2).lt
       have tkb20 : w2.cell? ⟨w.heap.size, 0, none⟩ = some (.slice A d.dry.length c) := ((unhide kb2).cell 0).trans rfl
       have tkb21 : w2.cell? ⟨w.heap.size, 1, none⟩ = some (.slice A' d.wet.length c') := ((unhide kb2).cell 1).trans rfl
       have tkb22 : w2.cell? ⟨w.heap.size, 2, none⟩ = some (.int .i64 d.left) := ((unhide kb2).cell 2).trans rfl
       clear tkb10 tkb11 tkb12)
    | (go_at_call 20; refine (unhide hlm _ HB2).mono ?_; rintro e w3 ⟨Ax, cx, Ay, cy, rfl, hd3, hb3⟩; have HB3 : Below w.heap.size w w3 := bl_call HB2 hb3
       replace hd3 := hide hd3)
    | fail)
  go_loopw [10, 39] (fun s10 s39 wr => ∃ (k : Nat) (e : Dk) (lo hi : Nat) (Ae Be : Option Addr) (ce ke : Nat), k ≤ l.length ∧ s39 = .int .i64 k ∧ s10 = .int .i64 e.left ∧ Hid (Going d e m k) ∧ Hid (Dsk lo hi wr (.agg #[.slice Ae e.dry.length ce, .slice Be e.wet.length ke, .int .i64 e.left]) e) ∧ Hid ((w3.heap.size < lo ∨ hi ≤ w3.heap.size) ∧ hi ≤ wr.heap.size) ∧ Hid (Blk wr w3.heap.size 25 #[.slice Ae e.dry.length ce, .slice Be e.wet.length ke, .int .i64 e.left]) ∧ Hid (Below w.heap.size w wr)) (fun _ i _ => l.length - (intOf i).toNat)
  case atStart =>
    exact ⟨0, ⟨d.dry, d.wet, m⟩, _, _, Ax, Ay, cx, cy, Nat.zero_le _, rfl, rfl, hG0, (unhide hd3).keep (Agree.alloc (Agree.refl _ _ _) (Nat.le_refl _) _), ⟨.inr (Nat.le_refl _), by simp⟩, Blk.new rfl, bl_alloc HB3 _⟩
  case round =>
    obtain ⟨k, e, lo, hi, Ae, Be, ce, ke, hk1, rfl, rfl, q1, q2, q3, q4, q5⟩ := hrel
    clear hG0 hd3
    by_cases hlt1 : k < l.length
    · obtain ⟨A3', c3', hs, x1, x2, x3⟩ := unhide hbl
      injection hs with hs1 _ hs2
      subst hs1 hs2
      obtain ⟨b, off, rfl, _, hb', hcell⟩ := x3 (by omega)
      have cB := ((unhide q5).cell (p := ⟨b, off + k, none⟩) hb').trans (hcell k hlt1)
      obtain ⟨x, hx⟩ : ∃ x, l[k] = x := ⟨_, rfl⟩
      rw [hx] at cB
      change wr.cell? ⟨b, off + k, none⟩ = some (.int .u8 (x.toNat : Int)) at cB
      clear hcell x3 hx x1 x2
      have i1 : (0 : Int) ≤ (k : Int) := by omega
      have i3 : (k : Int) < (l.length : Int) := by omega
      have r0 : wr.cell? ⟨w3.heap.size, 0, none⟩ = some (.slice Ae e.dry.length ce) := ((unhide q4).cell 0).trans rfl
      have r1 : wr.cell? ⟨w3.heap.size, 1, none⟩ = some (.slice Be e.wet.length ke) := ((unhide q4).cell 1).trans rfl
      have r2 : wr.cell? ⟨w3.heap.size, 2, none⟩ = some (.int .i64 e.left) := ((unhide q4).cell 2).trans rfl
      have l4 := (unhide q4).lt
      have z3 := HB3.size
      have zr := (unhide q5).size
      have hgn : w3.heap.size ≠ wr.heap.size := by omega
      have hwid : e.dry.length ≤ 1000000 ∧ e.wet.length ≤ 1000 := by
        have g1 := (unhide q1).dry; have g2 := (unhide q1).wet
        have := unhide fl; have := unhide fw60
        omega
      have hD : ∀ W, Below wr.heap.size wr W → Dsk 0 W.heap.size W (.agg #[.slice Ae e.dry.length ce, .slice Be e.wet.length ke, .int .i64 e.left]) e :=
        fun W hB => ((unhide q2).below hB (unhide q3).2).mono (Nat.zero_le _) (Nat.le_trans (unhide q3).2 hB.size)
      replace hwid := hide hwid; replace hD := hide hD
      have hr : ((x.toNat : Int) % 3 == 0) = true ∨ (((x.toNat : Int) % 3 == 0) = false ∧ ((x.toNat : Int) % 3 == 1) = true) ∨ (((x.toNat : Int) % 3 == 0) = false ∧ ((x.toNat : Int) % 3 == 1) = false) := by
        cases ((x.toNat : Int) % 3 == 0) <;> cases ((x.toNat : Int) % 3 == 1) <;> simp
      rcases hr with hr0 | ⟨hr0, hr1⟩ | ⟨hr0, hr1⟩
      · obtain ⟨e', E, hE, key⟩ : ∃ e' E, wrD e 0 zeroP = (e', E) ∧ ((e.left = 0 ∧ E = 11) ∨ (e.left ≠ 0 ∧ E = 0 ∧ Going d e' m (k + 1) ∧ e'.left = less e.left)) := by
          by_cases h0 : e.left = 0
          · exact ⟨_, _, (unhide q1).wr0 h0, .inl ⟨h0, rfl⟩⟩
          · exact ⟨_, _, ((unhide q1).wr h0).1, .inr ⟨h0, rfl, ((unhide q1).wr h0).2, rfl⟩⟩
        have hW : ∀ W g, Below wr.heap.size wr W → Blk W g 5 #[.int .u8 0, .int .u8 0, .int .u8 0, .int .u8 0, .int .u8 0, .int .u8 0, .int .u8 0, .int .u8 0, .int .u8 0, .int .u8 0, .int .u8 0, .int .u8 0, .int .u8 0, .int .u8 0, .int .u8 0, .int .u8 0, .int .u8 0, .int .u8 0, .int .u8 0, .int .u8 0, .int .u8 0, .int .u8 0, .int .u8 0, .int .u8 0, .int .u8 0, .int .u8 0, .int .u8 0, .int .u8 0, .int .u8 0, .int .u8 0, .int .u8 0, .int .u8 0] → Calls Try.prog 12 #[.agg #[.slice Ae e.dry.length ce, .slice Be e.wet.length ke, .int .i64 e.left], .int .i64 0, .slice (some ⟨g, 0, none⟩) 32 32] W fun r w' => ∃ A c A' c', r = .returned (.tuple #[.agg #[.slice A e'.dry.length c, .slice A' e'.wet.length c', .int .i64 e'.left], .int .i64 E]) ∧ Dsk W.heap.size w'.heap.size w' (.agg #[.slice A e'.dry.length c, .slice A' e'.wet.length c', .int .i64 e'.left]) e' ∧ Below W.heap.size W w' :=
          fun W g hB hg => (write_any 0 _ _ e 0 zeroP W (unhide hD _ hB) (zeroP_bs hg) (unhide hwid).1 (unhide hwid).2).mono fun r w' ⟨v', E', h1, h2, h3, h4⟩ => by
            rw [hE] at h2 h3
            obtain rfl : E' = E := h3
            obtain ⟨A, c, A', c', rfl⟩ := h2.form
            exact ⟨_, _, _, _, h1, h2, h4⟩
        replace hW := hide hW; replace hE := hide hE
        rcases key with ⟨hl0, rfl⟩ | ⟨hl0, rfl, hG', hle⟩
        · have hlb : (e.left == 0) = true := by rw [hl0]; rfl
          have hmf : (m == -1) = false := by
            cases hh : (m == -1)
            · rfl
            · exact absurd ((unhide q1).noEnd (by simpa using hh)) (by omega)
          replace hl0 := hide hl0
          go_wp2_with fail
          go_region_held3 (fun W => W.cell? ⟨w3.heap.size, 0, none⟩ = some (.slice Ae e.dry.length ce) ∧ W.cell? ⟨w3.heap.size, 1, none⟩ = some (.slice Be e.wet.length ke) ∧ W.cell? ⟨w3.heap.size, 2, none⟩ = some (.int .i64 e.left)) (first | exact ⟨by go_simp, by go_simp, by go_simp⟩)
            (first
              | (go_at_call 12; refine (unhide hW _ _ (by (repeat (first | with_reducible exact Below.refl _ _ | with_reducible assumption | with_reducible refine Below.drew ?_ | with_reducible refine bl_alloc ?_ _ | with_reducible refine bl_call ?_ (by assumption) | (focus (with_reducible refine Below.setCell ?_ ?_ _; rotate_left; focus (first | omega | (simp <;> omega)))) | fail))) (by first | exact Blk.new rfl | exact Blk.new (by simp) | exact (Blk.new (by simp)).drew | exact (Blk.new (by simp)).alloc _)).mono ?_; rintro r w4 ⟨Af, cf, Ag, cg, rfl, hdo, hb4⟩
                 have HR4 : Below wr.heap.size wr w4 := bl_call (by (repeat (first | with_reducible exact Below.refl _ _ | with_reducible assumption | with_reducible refine Below.drew ?_ | with_reducible refine bl_alloc ?_ _ | with_reducible refine bl_call ?_ (by assumption) | (focus (with_reducible refine Below.setCell ?_ ?_ _; rotate_left; focus (first | omega | (simp <;> omega)))) | fail))) hb4
                 have kn := hide (Blk.below (g := wr.heap.size) (t := 25) (cs := #[.slice none 0 0, .slice none 0 0, .int .i64 0]) (by (repeat (first | with_reducible assumption | (focus (with_reducible refine Blk.new ?_; focus (simp <;> fail))) | with_reducible refine Blk.set3 (a := .slice none 0 0) (b := .slice none 0 0) (c := .int .i64 0) ?_ | with_reducible refine Blk.alloc ?_ _ | with_reducible refine Blk.drew ?_ | (focus (with_reducible refine Blk.far ?_ ?_ _; rotate_left; focus (first | omega | (simp <;> omega)))) | (focus (with_reducible refine Blk.below ?_ hb1 ?_; rotate_left; focus (first | omega | (simp <;> omega)))) | fail))) hb4 (by simp; omega))
                 have kx := hide ((unhide q4).below HR4 l4)
                 have yn : wr.heap.size < w4.heap.size := (unhide kn).lt
                 have yx : w3.heap.size < w4.heap.size := (unhide kx).lt
                 have tn0 : w4.cell? ⟨wr.heap.size, 0, none⟩ = some (.slice none 0 0) := ((unhide kn).cell 0).trans rfl
                 have tnf0 := (unhide kn).frozen 0
                 have tn1 : w4.cell? ⟨wr.heap.size, 1, none⟩ = some (.slice none 0 0) := ((unhide kn).cell 1).trans rfl
                 have tnf1 := (unhide kn).frozen 1
                 have tn2 : w4.cell? ⟨wr.heap.size, 2, none⟩ = some (.int .i64 0) := ((unhide kn).cell 2).trans rfl
                 have tnf2 := (unhide kn).frozen 2
                 have tx0 : w4.cell? ⟨w3.heap.size, 0, none⟩ = some (.slice Ae e.dry.length ce) := ((unhide kx).cell 0).trans rfl
                 have txf0 := (unhide kx).frozen 0
                 have tx1 : w4.cell? ⟨w3.heap.size, 1, none⟩ = some (.slice Be e.wet.length ke) := ((unhide kx).cell 1).trans rfl
                 have txf1 := (unhide kx).frozen 1
                 have tx2 : w4.cell? ⟨w3.heap.size, 2, none⟩ = some (.int .i64 e.left) := ((unhide kx).cell 2).trans rfl
                 have txf2 := (unhide kx).frozen 2
                 have HB4 : Below w.heap.size w w4 := bl_call (unhide q5) HR4
                 replace hdo := hide (hdo.mono (lo' := wr.heap.size + 1) (by simp) (Nat.le_refl _))))
          go_wp2_with fail
          go_roundw
          case rel =>
            refine ⟨k + 1, e, lo, hi, Ae, Be, ce, ke, by omega, by go_num, rfl, (unhide q1).next, (unhide q2).below (B := wr.heap.size) ?_ (unhide q3).2, ⟨(unhide q3).1, Nat.le_trans (unhide q3).2 (Below.size (B := wr.heap.size) ?_)⟩, (unhide q4).below ?_ l4, bl_call (unhide q5) ?_⟩ <;> (repeat (first | with_reducible exact Below.refl _ _ | with_reducible assumption | with_reducible refine Below.drew ?_ | with_reducible refine bl_alloc ?_ _ | with_reducible refine bl_call ?_ (by assumption) | (focus (with_reducible refine Below.setCell ?_ ?_ _; rotate_left; focus (first | omega | (simp <;> omega)))) | fail))
          case measure => simp [intOf]; omega
        · have hlb : (e.left == 0) = false := by simpa using hl0
          have hlf := (okD_parts (unhide q1).ok).2.2.2.1
          have hmx : (if wrap64 (e.left - 1) < -1 then -1 else wrap64 (e.left - 1)) = e'.left := by
            simp only [leftB, decide_eq_true_eq] at hlf
            have hw : wrap64 (e.left - 1) = e.left - 1 := by unfold wrap64; omega
            rw [hw, hle]
            unfold less
            split <;> split <;> omega
          have hmc : (m == -1) = true ∨ (m == -1) = false := by cases (m == -1) <;> simp
          replace hl0 := hide hl0; replace hG' := hide hG'
          rcases hmc with hmf | hmf
          · have hm1 : e'.left = -1 := by rw [hle]; exact less_end (unhide q1).noEnd (by simpa using hmf)
            have hmd : (e'.left != -1) = false := by rw [hm1]; rfl
            replace hle := hide hle; replace hm1 := hide hm1; replace hmx := hide hmx; replace hlf := hide hlf
            go_wp2_with fail
            go_region_held3 (fun W => W.cell? ⟨w3.heap.size, 0, none⟩ = some (.slice Ae e.dry.length ce) ∧ W.cell? ⟨w3.heap.size, 1, none⟩ = some (.slice Be e.wet.length ke) ∧ W.cell? ⟨w3.heap.size, 2, none⟩ = some (.int .i64 e.left)) (first | exact ⟨by go_simp, by go_simp, by go_simp⟩)
            (first
              | (go_at_call 12; refine (unhide hW _ _ (by (repeat (first | with_reducible exact Below.refl _ _ | with_reducible assumption | with_reducible refine Below.drew ?_ | with_reducible refine bl_alloc ?_ _ | with_reducible refine bl_call ?_ (by assumption) | (focus (with_reducible refine Below.setCell ?_ ?_ _; rotate_left; focus (first | omega | (simp <;> omega)))) | fail))) (by first | exact Blk.new rfl | exact Blk.new (by simp) | exact (Blk.new (by simp)).drew | exact (Blk.new (by simp)).alloc _)).mono ?_; rintro r w4 ⟨Af, cf, Ag, cg, rfl, hdo, hb4⟩
                 have HR4 : Below wr.heap.size wr w4 := bl_call (by (repeat (first | with_reducible exact Below.refl _ _ | with_reducible assumption | with_reducible refine Below.drew ?_ | with_reducible refine bl_alloc ?_ _ | with_reducible refine bl_call ?_ (by assumption) | (focus (with_reducible refine Below.setCell ?_ ?_ _; rotate_left; focus (first | omega | (simp <;> omega)))) | fail))) hb4
                 have kn := hide (Blk.below (g := wr.heap.size) (t := 25) (cs := #[.slice none 0 0, .slice none 0 0, .int .i64 0]) (by (repeat (first | with_reducible assumption | (focus (with_reducible refine Blk.new ?_; focus (simp <;> fail))) | with_reducible refine Blk.set3 (a := .slice none 0 0) (b := .slice none 0 0) (c := .int .i64 0) ?_ | with_reducible refine Blk.alloc ?_ _ | with_reducible refine Blk.drew ?_ | (focus (with_reducible refine Blk.far ?_ ?_ _; rotate_left; focus (first | omega | (simp <;> omega)))) | (focus (with_reducible refine Blk.below ?_ hb1 ?_; rotate_left; focus (first | omega | (simp <;> omega)))) | fail))) hb4 (by simp; omega))
                 have kx := hide ((unhide q4).below HR4 l4)
                 have yn : wr.heap.size < w4.heap.size := (unhide kn).lt
                 have yx : w3.heap.size < w4.heap.size := (unhide kx).lt
                 have tn0 : w4.cell? ⟨wr.heap.size, 0, none⟩ = some (.slice none 0 0) := ((unhide kn).cell 0).trans rfl
                 have tnf0 := (unhide kn).frozen 0
                 have tn1 : w4.cell? ⟨wr.heap.size, 1, none⟩ = some (.slice none 0 0) := ((unhide kn).cell 1).trans rfl
                 have tnf1 := (unhide kn).frozen 1
                 have tn2 : w4.cell? ⟨wr.heap.size, 2, none⟩ = some (.int .i64 0) := ((unhide kn).cell 2).trans rfl
                 have tnf2 := (unhide kn).frozen 2
                 have tx0 : w4.cell? ⟨w3.heap.size, 0, none⟩ = some (.slice Ae e.dry.length ce) := ((unhide kx).cell 0).trans rfl
                 have txf0 := (unhide kx).frozen 0
                 have tx1 : w4.cell? ⟨w3.heap.size, 1, none⟩ = some (.slice Be e.wet.length ke) := ((unhide kx).cell 1).trans rfl
                 have txf1 := (unhide kx).frozen 1
                 have tx2 : w4.cell? ⟨w3.heap.size, 2, none⟩ = some (.int .i64 e.left) := ((unhide kx).cell 2).trans rfl
                 have txf2 := (unhide kx).frozen 2
                 have HB4 : Below w.heap.size w w4 := bl_call (unhide q5) HR4
                 replace hdo := hide (hdo.mono (lo' := wr.heap.size + 1) (by simp) (Nat.le_refl _))))
            go_wp2_with fail
            go_roundw
            case rel =>
              refine ⟨k + 1, e', wr.heap.size + 1, w4.heap.size, Af, Ag, cf, cg, by omega, by go_num, congrArg (Value.int .i64) (unhide hm1).symm, unhide hG', ((unhide hdo).put3 (g := wr.heap.size) (by omega) _ _ _).put3 (g := w3.heap.size) (by omega) _ _ _, ⟨.inl (by omega), by simp⟩, (((((unhide kx).far (p := ⟨wr.heap.size, 0, none⟩) hgn _).far (p := ⟨wr.heap.size, 1, none⟩) hgn _).far (p := ⟨wr.heap.size, 2, none⟩) hgn _).set3), (?_ : Below _ _ _)⟩
              (repeat (first | with_reducible exact Below.refl _ _ | with_reducible assumption | with_reducible refine Below.drew ?_ | with_reducible refine bl_alloc ?_ _ | with_reducible refine bl_call ?_ (by assumption) | (focus (with_reducible refine Below.setCell ?_ ?_ _; rotate_left; focus (first | omega | (simp <;> omega)))) | fail))
            case measure => simp [intOf]; omega
          · have hmd : (e'.left != if wrap64 (e.left - 1) < -1 then -1 else wrap64 (e.left - 1)) = false := by rw [hmx]; simp
            replace hle := hide hle; replace hmx := hide hmx; replace hlf := hide hlf
            go_wp2_with fail
            go_region_held3 (fun W => W.cell? ⟨w3.heap.size, 0, none⟩ = some (.slice Ae e.dry.length ce) ∧ W.cell? ⟨w3.heap.size, 1, none⟩ = some (.slice Be e.wet.length ke) ∧ W.cell? ⟨w3.heap.size, 2, none⟩ = some (.int .i64 e.left)) (first | exact ⟨by go_simp, by go_simp, by go_simp⟩)
            (first
              | (go_at_call 12; refine (unhide hW _ _ (by (repeat (first | with_reducible exact Below.refl _ _ | with_reducible assumption | with_reducible refine Below.drew ?_ | with_reducible refine bl_alloc ?_ _ | with_reducible refine bl_call ?_ (by assumption) | (focus (with_reducible refine Below.setCell ?_ ?_ _; rotate_left; focus (first | omega | (simp <;> omega)))) | fail))) (by first | exact Blk.new rfl | exact Blk.new (by simp) | exact (Blk.new (by simp)).drew | exact (Blk.new (by simp)).alloc _)).mono ?_; rintro r w4 ⟨Af, cf, Ag, cg, rfl, hdo, hb4⟩
                 have HR4 : Below wr.heap.size wr w4 := bl_call (by (repeat (first | with_reducible exact Below.refl _ _ | with_reducible assumption | with_reducible refine Below.drew ?_ | with_reducible refine bl_alloc ?_ _ | with_reducible refine bl_call ?_ (by assumption) | (focus (with_reducible refine Below.setCell ?_ ?_ _; rotate_left; focus (first | omega | (simp <;> omega)))) | fail))) hb4
                 have kn := hide (Blk.below (g := wr.heap.size) (t := 25) (cs := #[.slice none 0 0, .slice none 0 0, .int .i64 0]) (by (repeat (first | with_reducible assumption | (focus (with_reducible refine Blk.new ?_; focus (simp <;> fail))) | with_reducible refine Blk.set3 (a := .slice none 0 0) (b := .slice none 0 0) (c := .int .i64 0) ?_ | with_reducible refine Blk.alloc ?_ _ | with_reducible refine Blk.drew ?_ | (focus (with_reducible refine Blk.far ?_ ?_ _; rotate_left; focus (first | omega | (simp <;> omega)))) | (focus (with_reducible refine Blk.below ?_ hb1 ?_; rotate_left; focus (first | omega | (simp <;> omega)))) | fail))) hb4 (by simp; omega))
                 have kx := hide ((unhide q4).below HR4 l4)
                 have yn : wr.heap.size < w4.heap.size := (unhide kn).lt
                 have yx : w3.heap.size < w4.heap.size := (unhide kx).lt
                 have tn0 : w4.cell? ⟨wr.heap.size, 0, none⟩ = some (.slice none 0 0) := ((unhide kn).cell 0).trans rfl
                 have tnf0 := (unhide kn).frozen 0
                 have tn1 : w4.cell? ⟨wr.heap.size, 1, none⟩ = some (.slice none 0 0) := ((unhide kn).cell 1).trans rfl
                 have tnf1 := (unhide kn).frozen 1
                 have tn2 : w4.cell? ⟨wr.heap.size, 2, none⟩ = some (.int .i64 0) := ((unhide kn).cell 2).trans rfl
                 have tnf2 := (unhide kn).frozen 2
                 have tx0 : w4.cell? ⟨w3.heap.size, 0, none⟩ = some (.slice Ae e.dry.length ce) := ((unhide kx).cell 0).trans rfl
                 have txf0 := (unhide kx).frozen 0
                 have tx1 : w4.cell? ⟨w3.heap.size, 1, none⟩ = some (.slice Be e.wet.length ke) := ((unhide kx).cell 1).trans rfl
                 have txf1 := (unhide kx).frozen 1
                 have tx2 : w4.cell? ⟨w3.heap.size, 2, none⟩ = some (.int .i64 e.left) := ((unhide kx).cell 2).trans rfl
                 have txf2 := (unhide kx).frozen 2
                 have HB4 : Below w.heap.size w w4 := bl_call (unhide q5) HR4
                 replace hdo := hide (hdo.mono (lo' := wr.heap.size + 1) (by simp) (Nat.le_refl _))))
            go_wp2_with fail
            go_roundw
            case rel =>
              refine ⟨k + 1, e', wr.heap.size + 1, w4.heap.size, Af, Ag, cf, cg, by omega, by go_num, congrArg (Value.int .i64) (unhide hmx), unhide hG', ((unhide hdo).put3 (g := wr.heap.size) (by omega) _ _ _).put3 (g := w3.heap.size) (by omega) _ _ _, ⟨.inl (by omega), by simp⟩, (((((unhide kx).far (p := ⟨wr.heap.size, 0, none⟩) hgn _).far (p := ⟨wr.heap.size, 1, none⟩) hgn _).far (p := ⟨wr.heap.size, 2, none⟩) hgn _).set3), (?_ : Below _ _ _)⟩
              (repeat (first | with_reducible exact Below.refl _ _ | with_reducible assumption | with_reducible refine Below.drew ?_ | with_reducible refine bl_alloc ?_ _ | with_reducible refine bl_call ?_ (by assumption) | (focus (with_reducible refine Below.setCell ?_ ?_ _; rotate_left; focus (first | omega | (simp <;> omega)))) | fail))
            case measure => simp [intOf]; omega
      · obtain ⟨e', E, hE, key⟩ : ∃ e' E, synD e = (e', E) ∧ ((e.left = 0 ∧ E = 11) ∨ (e.left ≠ 0 ∧ E = 0 ∧ Going d e' m (k + 1) ∧ e'.left = less e.left)) := by
          by_cases h0 : e.left = 0
          · exact ⟨_, _, (unhide q1).sy0 h0, .inl ⟨h0, rfl⟩⟩
          · exact ⟨_, _, ((unhide q1).sy h0).1, .inr ⟨h0, rfl, ((unhide q1).sy h0).2, rfl⟩⟩
        have hW : ∀ W, Below wr.heap.size wr W → Calls Try.prog 16 #[.agg #[.slice Ae e.dry.length ce, .slice Be e.wet.length ke, .int .i64 e.left]] W fun r w' => ∃ A c A' c', r = .returned (.tuple #[.agg #[.slice A e'.dry.length c, .slice A' e'.wet.length c', .int .i64 e'.left], .int .i64 E]) ∧ Dsk W.heap.size w'.heap.size w' (.agg #[.slice A e'.dry.length c, .slice A' e'.wet.length c', .int .i64 e'.left]) e' ∧ Below W.heap.size W w' :=
          fun W hB => (sync_any 0 _ e W (unhide hD _ hB) (unhide hwid).1 (unhide hwid).2).mono fun r w' ⟨v', E', h1, h2, h3, h4⟩ => by
            rw [hE] at h2 h3
            obtain rfl : E' = E := h3
            obtain ⟨A, c, A', c', rfl⟩ := h2.form
            exact ⟨_, _, _, _, h1, h2, h4⟩
        replace hW := hide hW; replace hE := hide hE
        rcases key with ⟨hl0, rfl⟩ | ⟨hl0, rfl, hG', hle⟩
        · have hlb : (e.left == 0) = true := by rw [hl0]; rfl
          have hmf : (m == -1) = false := by
            cases hh : (m == -1)
            · rfl
            · exact absurd ((unhide q1).noEnd (by simpa using hh)) (by omega)
          replace hl0 := hide hl0
          go_wp2_with (first
              | (go_at_call 16; refine (unhide hW _ (by (repeat (first | with_reducible exact Below.refl _ _ | with_reducible assumption | with_reducible refine Below.drew ?_ | with_reducible refine bl_alloc ?_ _ | with_reducible refine bl_call ?_ (by assumption) | (focus (with_reducible refine Below.setCell ?_ ?_ _; rotate_left; focus (first | omega | (simp <;> omega)))) | fail)))).mono ?_; rintro r w4 ⟨Af, cf, Ag, cg, rfl, hdo, hb4⟩
                 have HR4 : Below wr.heap.size wr w4 := bl_call (by (repeat (first | with_reducible exact Below.refl _ _ | with_reducible assumption | with_reducible refine Below.drew ?_ | with_reducible refine bl_alloc ?_ _ | with_reducible refine bl_call ?_ (by assumption) | (focus (with_reducible refine Below.setCell ?_ ?_ _; rotate_left; focus (first | omega | (simp <;> omega)))) | fail))) hb4
                 have kn := hide (Blk.below (g := wr.heap.size) (t := 25) (cs := #[.slice none 0 0, .slice none 0 0, .int .i64 0]) (by (repeat (first | with_reducible assumption | (focus (with_reducible refine Blk.new ?_; focus (simp <;> fail))) | with_reducible refine Blk.set3 (a := .slice none 0 0) (b := .slice none 0 0) (c := .int .i64 0) ?_ | with_reducible refine Blk.alloc ?_ _ | with_reducible refine Blk.drew ?_ | (focus (with_reducible refine Blk.far ?_ ?_ _; rotate_left; focus (first | omega | (simp <;> omega)))) | (focus (with_reducible refine Blk.below ?_ hb1 ?_; rotate_left; focus (first | omega | (simp <;> omega)))) | fail))) hb4 (by first | omega | (simp <;> omega)))
                 have kx := hide ((unhide q4).below HR4 l4)
                 have yn : wr.heap.size < w4.heap.size := (unhide kn).lt
                 have yx : w3.heap.size < w4.heap.size := (unhide kx).lt
                 have tn0 : w4.cell? ⟨wr.heap.size, 0, none⟩ = some (.slice none 0 0) := ((unhide kn).cell 0).trans rfl
                 have tnf0 := (unhide kn).frozen 0
                 have tn1 : w4.cell? ⟨wr.heap.size, 1, none⟩ = some (.slice none 0 0) := ((unhide kn).cell 1).trans rfl
                 have tnf1 := (unhide kn).frozen 1
                 have tn2 : w4.cell? ⟨wr.heap.size, 2, none⟩ = some (.int .i64 0) := ((unhide kn).cell 2).trans rfl
                 have tnf2 := (unhide kn).frozen 2
                 have tx0 : w4.cell? ⟨w3.heap.size, 0, none⟩ = some (.slice Ae e.dry.length ce) := ((unhide kx).cell 0).trans rfl
                 have txf0 := (unhide kx).frozen 0
                 have tx1 : w4.cell? ⟨w3.heap.size, 1, none⟩ = some (.slice Be e.wet.length ke) := ((unhide kx).cell 1).trans rfl
                 have txf1 := (unhide kx).frozen 1
                 have tx2 : w4.cell? ⟨w3.heap.size, 2, none⟩ = some (.int .i64 e.left) := ((unhide kx).cell 2).trans rfl
                 have txf2 := (unhide kx).frozen 2
                 have HB4 : Below w.heap.size w w4 := bl_call (unhide q5) HR4
                 replace hdo := hide (hdo.mono (lo' := wr.heap.size + 1) (by simp) (Nat.le_refl _)))
              | fail)
          go_roundw
          case rel =>
            refine ⟨k + 1, e, lo, hi, Ae, Be, ce, ke, by omega, by go_num, rfl, (unhide q1).next, (unhide q2).below (B := wr.heap.size) ?_ (unhide q3).2, ⟨(unhide q3).1, Nat.le_trans (unhide q3).2 (Below.size (B := wr.heap.size) ?_)⟩, (unhide q4).below ?_ l4, bl_call (unhide q5) ?_⟩ <;> (repeat (first | with_reducible exact Below.refl _ _ | with_reducible assumption | with_reducible refine Below.drew ?_ | with_reducible refine bl_alloc ?_ _ | with_reducible refine bl_call ?_ (by assumption) | (focus (with_reducible refine Below.setCell ?_ ?_ _; rotate_left; focus (first | omega | (simp <;> omega)))) | fail))
          case measure => simp [intOf]; omega
        · have hlb : (e.left == 0) = false := by simpa using hl0
          have hlf := (okD_parts (unhide q1).ok).2.2.2.1
          have hmx : (if wrap64 (e.left - 1) < -1 then -1 else wrap64 (e.left - 1)) = e'.left := by
            simp only [leftB, decide_eq_true_eq] at hlf
            have hw : wrap64 (e.left - 1) = e.left - 1 := by unfold wrap64; omega
            rw [hw, hle]
            unfold less
            split <;> split <;> omega
          have hmc : (m == -1) = true ∨ (m == -1) = false := by cases (m == -1) <;> simp
          replace hl0 := hide hl0; replace hG' := hide hG'
          rcases hmc with hmf | hmf
          · have hm1 : e'.left = -1 := by rw [hle]; exact less_end (unhide q1).noEnd (by simpa using hmf)
            have hmd : (e'.left != -1) = false := by rw [hm1]; rfl
            replace hle := hide hle; replace hm1 := hide hm1; replace hmx := hide hmx; replace hlf := hide hlf
            go_wp2_with (first
              | (go_at_call 16; refine (unhide hW _ (by (repeat (first | with_reducible exact Below.refl _ _ | with_reducible assumption | with_reducible refine Below.drew ?_ | with_reducible refine bl_alloc ?_ _ | with_reducible refine bl_call ?_ (by assumption) | (focus (with_reducible refine Below.setCell ?_ ?_ _; rotate_left; focus (first | omega | (simp <;> omega)))) | fail)))).mono ?_; rintro r w4 ⟨Af, cf, Ag, cg, rfl, hdo, hb4⟩
                 have HR4 : Below wr.heap.size wr w4 := bl_call (by (repeat (first | with_reducible exact Below.refl _ _ | with_reducible assumption | with_reducible refine Below.drew ?_ | with_reducible refine bl_alloc ?_ _ | with_reducible refine bl_call ?_ (by assumption) | (focus (with_reducible refine Below.setCell ?_ ?_ _; rotate_left; focus (first | omega | (simp <;> omega)))) | fail))) hb4
                 have kn := hide (Blk.below (g := wr.heap.size) (t := 25) (cs := #[.slice none 0 0, .slice none 0 0, .int .i64 0]) (by (repeat (first | with_reducible assumption | (focus (with_reducible refine Blk.new ?_; focus (simp <;> fail))) | with_reducible refine Blk.set3 (a := .slice none 0 0) (b := .slice none 0 0) (c := .int .i64 0) ?_ | with_reducible refine Blk.alloc ?_ _ | with_reducible refine Blk.drew ?_ | (focus (with_reducible refine Blk.far ?_ ?_ _; rotate_left; focus (first | omega | (simp <;> omega)))) | (focus (with_reducible refine Blk.below ?_ hb1 ?_; rotate_left; focus (first | omega | (simp <;> omega)))) | fail))) hb4 (by first | omega | (simp <;> omega)))
                 have kx := hide ((unhide q4).below HR4 l4)
                 have yn : wr.heap.size < w4.heap.size := (unhide kn).lt
                 have yx : w3.heap.size < w4.heap.size := (unhide kx).lt
                 have tn0 : w4.cell? ⟨wr.heap.size, 0, none⟩ = some (.slice none 0 0) := ((unhide kn).cell 0).trans rfl
                 have tnf0 := (unhide kn).frozen 0
                 have tn1 : w4.cell? ⟨wr.heap.size, 1, none⟩ = some (.slice none 0 0) := ((unhide kn).cell 1).trans rfl
                 have tnf1 := (unhide kn).frozen 1
                 have tn2 : w4.cell? ⟨wr.heap.size, 2, none⟩ = some (.int .i64 0) := ((unhide kn).cell 2).trans rfl
                 have tnf2 := (unhide kn).frozen 2
                 have tx0 : w4.cell? ⟨w3.heap.size, 0, none⟩ = some (.slice Ae e.dry.length ce) := ((unhide kx).cell 0).trans rfl
                 have txf0 := (unhide kx).frozen 0
                 have tx1 : w4.cell? ⟨w3.heap.size, 1, none⟩ = some (.slice Be e.wet.length ke) := ((unhide kx).cell 1).trans rfl
                 have txf1 := (unhide kx).frozen 1
                 have tx2 : w4.cell? ⟨w3.heap.size, 2, none⟩ = some (.int .i64 e.left) := ((unhide kx).cell 2).trans rfl
                 have txf2 := (unhide kx).frozen 2
                 have HB4 : Below w.heap.size w w4 := bl_call (unhide q5) HR4
                 replace hdo := hide (hdo.mono (lo' := wr.heap.size + 1) (by simp) (Nat.le_refl _)))
              | fail)
            go_roundw
            case rel =>
              refine ⟨k + 1, e', wr.heap.size + 1, w4.heap.size, Af, Ag, cf, cg, by omega, by go_num, congrArg (Value.int .i64) (unhide hm1).symm, unhide hG', ((unhide hdo).put3 (g := wr.heap.size) (by omega) _ _ _).put3 (g := w3.heap.size) (by omega) _ _ _, ⟨.inl (by omega), by simp⟩, (((((unhide kx).far (p := ⟨wr.heap.size, 0, none⟩) hgn _).far (p := ⟨wr.heap.size, 1, none⟩) hgn _).far (p := ⟨wr.heap.size, 2, none⟩) hgn _).set3), (?_ : Below _ _ _)⟩
              (repeat (first | with_reducible exact Below.refl _ _ | with_reducible assumption | with_reducible refine Below.drew ?_ | with_reducible refine bl_alloc ?_ _ | with_reducible refine bl_call ?_ (by assumption) | (focus (with_reducible refine Below.setCell ?_ ?_ _; rotate_left; focus (first | omega | (simp <;> omega)))) | fail))
            case measure => simp [intOf]; omega
          · have hmd : (e'.left != if wrap64 (e.left - 1) < -1 then -1 else wrap64 (e.left - 1)) = false := by rw [hmx]; simp
            replace hle := hide hle; replace hmx := hide hmx; replace hlf := hide hlf
            go_wp2_with (first
              | (go_at_call 16; refine (unhide hW _ (by (repeat (first | with_reducible exact Below.refl _ _ | with_reducible assumption | with_reducible refine Below.drew ?_ | with_reducible refine bl_alloc ?_ _ | with_reducible refine bl_call ?_ (by assumption) | (focus (with_reducible refine Below.setCell ?_ ?_ _; rotate_left; focus (first | omega | (simp <;> omega)))) | fail)))).mono ?_; rintro r w4 ⟨Af, cf, Ag, cg, rfl, hdo, hb4⟩
                 have HR4 : Below wr.heap.size wr w4 := bl_call (by (repeat (first | with_reducible exact Below.refl _ _ | with_reducible assumption | with_reducible refine Below.drew ?_ | with_reducible refine bl_alloc ?_ _ | with_reducible refine bl_call ?_ (by assumption) | (focus (with_reducible refine Below.setCell ?_ ?_ _; rotate_left; focus (first | omega | (simp <;> omega)))) | fail))) hb4
                 have kn := hide (Blk.below (g := wr.heap.size) (t := 25) (cs := #[.slice none 0 0, .slice none 0 0, .int .i64 0]) (by (repeat (first | with_reducible assumption | (focus (with_reducible refine Blk.new ?_; focus (simp <;> fail))) | with_reducible refine Blk.set3 (a := .slice none 0 0) (b := .slice none 0 0) (c := .int .i64 0) ?_ | with_reducible refine Blk.alloc ?_ _ | with_reducible refine Blk.drew ?_ | (focus (with_reducible refine Blk.far ?_ ?_ _; rotate_left; focus (first | omega | (simp <;> omega)))) | (focus (with_reducible refine Blk.below ?_ hb1 ?_; rotate_left; focus (first | omega | (simp <;> omega)))) | fail))) hb4 (by first | omega | (simp <;> omega)))
                 have kx := hide ((unhide q4).below HR4 l4)
                 have yn : wr.heap.size < w4.heap.size := (unhide kn).lt
                 have yx : w3.heap.size < w4.heap.size := (unhide kx).lt
                 have tn0 : w4.cell? ⟨wr.heap.size, 0, none⟩ = some (.slice none 0 0) := ((unhide kn).cell 0).trans rfl
                 have tnf0 := (unhide kn).frozen 0
                 have tn1 : w4.cell? ⟨wr.heap.size, 1, none⟩ = some (.slice none 0 0) := ((unhide kn).cell 1).trans rfl
                 have tnf1 := (unhide kn).frozen 1
                 have tn2 : w4.cell? ⟨wr.heap.size, 2, none⟩ = some (.int .i64 0) := ((unhide kn).cell 2).trans rfl
                 have tnf2 := (unhide kn).frozen 2
                 have tx0 : w4.cell? ⟨w3.heap.size, 0, none⟩ = some (.slice Ae e.dry.length ce) := ((unhide kx).cell 0).trans rfl
                 have txf0 := (unhide kx).frozen 0
                 have tx1 : w4.cell? ⟨w3.heap.size, 1, none⟩ = some (.slice Be e.wet.length ke) := ((unhide kx).cell 1).trans rfl
                 have txf1 := (unhide kx).frozen 1
                 have tx2 : w4.cell? ⟨w3.heap.size, 2, none⟩ = some (.int .i64 e.left) := ((unhide kx).cell 2).trans rfl
                 have txf2 := (unhide kx).frozen 2
                 have HB4 : Below w.heap.size w w4 := bl_call (unhide q5) HR4
                 replace hdo := hide (hdo.mono (lo' := wr.heap.size + 1) (by simp) (Nat.le_refl _)))
              | fail)
            go_roundw
            case rel =>
              refine ⟨k + 1, e', wr.heap.size + 1, w4.heap.size, Af, Ag, cf, cg, by omega, by go_num, congrArg (Value.int .i64) (unhide hmx), unhide hG', ((unhide hdo).put3 (g := wr.heap.size) (by omega) _ _ _).put3 (g := w3.heap.size) (by omega) _ _ _, ⟨.inl (by omega), by simp⟩, (((((unhide kx).far (p := ⟨wr.heap.size, 0, none⟩) hgn _).far (p := ⟨wr.heap.size, 1, none⟩) hgn _).far (p := ⟨wr.heap.size, 2, none⟩) hgn _).set3), (?_ : Below _ _ _)⟩
              (repeat (first | with_reducible exact Below.refl _ _ | with_reducible assumption | with_reducible refine Below.drew ?_ | with_reducible refine bl_alloc ?_ _ | with_reducible refine bl_call ?_ (by assumption) | (focus (with_reducible refine Below.setCell ?_ ?_ _; rotate_left; focus (first | omega | (simp <;> omega)))) | fail))
            case measure => simp [intOf]; omega
      · have hR : ∀ W, Below wr.heap.size wr W → Calls Try.prog 14 #[.agg #[.slice Ae e.dry.length ce, .slice Be e.wet.length ke, .int .i64 e.left], .int .i64 0] W fun r w' => ∃ A n c, r = .returned (.tuple #[.slice A n c, .int .i64 0]) ∧ Below W.heap.size W w' :=
          fun W hB => (read_any 0 _ e 0 W (unhide hD _ hB) (unhide hwid).1 (unhide hwid).2).mono fun r w' ⟨v', E', h1, h2, h3, h4⟩ => by
            rw [(unhide q1).rd] at h2 h3
            obtain rfl : E' = 0 := h3
            obtain ⟨A, c, rfl, _⟩ := h2
            exact ⟨_, _, _, h1, h4⟩
        replace hR := hide hR
        go_wp2_with (first
              | (go_at_call 14; refine (unhide hR _ (by (repeat (first | with_reducible exact Below.refl _ _ | with_reducible assumption | with_reducible refine Below.drew ?_ | with_reducible refine bl_alloc ?_ _ | with_reducible refine bl_call ?_ (by assumption) | (focus (with_reducible refine Below.setCell ?_ ?_ _; rotate_left; focus (first | omega | (simp <;> omega)))) | fail)))).mono ?_; rintro r w4 ⟨A4, n4, c4, rfl, hb4⟩
                 have HR4 : Below wr.heap.size wr w4 := bl_call (by (repeat (first | with_reducible exact Below.refl _ _ | with_reducible assumption | with_reducible refine Below.drew ?_ | with_reducible refine bl_alloc ?_ _ | with_reducible refine bl_call ?_ (by assumption) | (focus (with_reducible refine Below.setCell ?_ ?_ _; rotate_left; focus (first | omega | (simp <;> omega)))) | fail))) hb4)
              | fail)
        go_roundw
        case rel =>
          refine ⟨k + 1, e, lo, hi, Ae, Be, ce, ke, by omega, by go_num, rfl, (unhide q1).next, (unhide q2).below (B := wr.heap.size) ?_ (unhide q3).2, ⟨(unhide q3).1, Nat.le_trans (unhide q3).2 (Below.size (B := wr.heap.size) ?_)⟩, (unhide q4).below ?_ l4, bl_call (unhide q5) ?_⟩ <;> (repeat (first | with_reducible exact Below.refl _ _ | with_reducible assumption | with_reducible refine Below.drew ?_ | with_reducible refine bl_alloc ?_ _ | with_reducible refine bl_call ?_ (by assumption) | (focus (with_reducible refine Below.setCell ?_ ?_ _; rotate_left; focus (first | omega | (simp <;> omega)))) | fail))
        case measure => simp [intOf]; omega
    · have hk : k = l.length := by omega
      replace hk := hide hk
      go_wp2_with fail
      go_ret
      exact ⟨rfl, unhide q5⟩

theorem deeds_any (A A' A3 : Option Addr) (c c' c3 : Nat) (d : Dk) (m : Int) (l : List UInt8) (w : World)
    (h : Dsk 0 w.heap.size w (.agg #[.slice A d.dry.length c, .slice A' d.wet.length c', .int .i64 d.left]) d) (hbl : Bs 0 w.heap.size w (.slice A3 l.length c3) l) :
    Calls Try.prog 8 #[.agg #[.slice A d.dry.length c, .slice A' d.wet.length c', .int .i64 d.left], .int .i64 m, .slice A3 l.length c3] w fun e w' => e = .returned (.bool true) ∧ Below w.heap.size w w' := by
  cases hf : fewB d
  · exact deeds_gate A A' A3 c c' c3 d m l w h hbl (.inl hf)
  · by_cases hl : l.length ≤ 60
    · cases hq : okD d && leftB m
      · exact deeds_arg A A' A3 c c' c3 d m l w h hf hl hq
      · rw [Bool.and_eq_true] at hq
        exact deeds_go A A' A3 c c' c3 d m l w h hbl hf hl hq.1 hq.2
    · exact deeds_gate A A' A3 c c' c3 d m l w h hbl (.inr ⟨hf, by omega⟩)

end Go.Proofs.Ytcgfcdbchcehmaa
