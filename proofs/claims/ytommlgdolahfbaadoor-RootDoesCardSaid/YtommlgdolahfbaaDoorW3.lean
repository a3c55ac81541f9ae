import Derived.Test.YtommlgdolahfbaaDoorProg
import Derived.Test.YtommlgdolahfbaaDoorW1
import Derived.Test.YtommlgdolahfbaaDoorW2
namespace Go.Proofs.YtommlgdolahfbaaDoor
set_option maxRecDepth 100000
open Go.RowKit

theorem info41 : (Tryd.prog.info? 56).map (fun i => (i.zero, i.size, i.bytes)) = some (some (.agg #[.int .i64 0, .slice none 0 0]), 2, 32) := by kernel_rfl

theorem ret_disk {fn : Func} {p : Tmp} {R : Ending → World → Prop} {a : Act} {w : World} (h : fn.results = #[.cell p 31]) (g : Nat) (cs : Array Value) (hs : cs.size = 3)
    (hp : a.tmps.getD p undef = .pointer (some ⟨g, 0, none⟩)) (hg : Blk w g 31 cs) (hd : a.defers = []) (hR : R (.returned (.agg cs)) w) : bodyPost Tryd.prog fn R .ret a w :=
  bodyPost_ret (results_cell_row h a.tmps w g 31 cs (0, 0) _ hp hg Tryd.underlying31 rfl ((by kernel_rfl : (Tryd.prog.info? 31).map (·.size) = some 3).trans (by rw [hs]))) hd hR

set_option maxHeartbeats 400000 in
theorem dried_any (lo : Nat) (va vb lv : Value) (l : List UInt8) (w : World) (h : Bs lo w.heap.size w va l) (hL : l.length ≤ 1000000) :
    Calls Tryd.prog 52 #[.agg #[va, vb, lv]] w fun e w' => ∃ A' c', e = .returned (.agg #[.slice A' l.length c', .slice none 0 0, .int .i64 (-1)]) ∧ w'.ownsRow w.heap.size 5 1 (.slice A' l.length c') l.length (l.map u8v) ∧ Below w.heap.size w w' := by
  have hb := fun W hB => bclone lo va l W ((h.below hB (Nat.le_refl _)).mono (Nat.le_refl _) hB.size) hL
  have HB := hide hb; clear hb h
  go_enter Tryd.func52, Tryd.ntmps52
  go_wp2_with (go_at_call 51; refine (unhide HB _ (by (repeat (first | with_reducible exact Below.refl _ _ | with_reducible assumption | with_reducible refine Below.drew ?_ | with_reducible refine bl_alloc ?_ _ | with_reducible refine bl_call ?_ (by assumption) | (focus (with_reducible refine Below.setCell ?_ ?_ _; rotate_left; focus (first | omega | (simp <;> omega)))) | fail)))).mono ?_; rintro e w1 ⟨A', c', rfl, hown, hb1⟩; have hk1 := hide (Blk.below (g := w.heap.size + 1) (t := 31) (cs := #[.slice none 0 0, .slice none 0 0, .int .i64 0]) (by (repeat (first | with_reducible assumption | (focus (with_reducible refine Blk.new ?_; focus (simp <;> fail))) | with_reducible refine Blk.set3 (a := .slice none 0 0) (b := .slice none 0 0) (c := .int .i64 0) ?_ | with_reducible refine Blk.alloc ?_ _ | with_reducible refine Blk.drew ?_ | (focus (with_reducible refine Blk.far ?_ ?_ _; rotate_left; focus (first | omega | (simp <;> omega)))) | (focus (with_reducible refine Blk.below ?_ hb1 ?_; rotate_left; focus (first | omega | (simp <;> omega)))) | fail))) hb1 (by simp)); (obtain ⟨hc1, hf1⟩ := bcell hb1; have hz1 := hb1.size; (try have y0 : w.heap.size < w1.heap.size := (by (simp at hz1; omega))); (try have y1 : w.heap.size + 1 < w1.heap.size := (by (simp at hz1; omega))); (try have y2 : w.heap.size + 2 < w1.heap.size := (by (simp at hz1; omega))); (try have y3 : w.heap.size + 3 < w1.heap.size := (by (simp at hz1; omega))); clear hz1))
  have hk1 := unhide hk1
  have HB1 : Below w.heap.size w w1 := bl_call (by (repeat (first | with_reducible exact Below.refl _ _ | with_reducible assumption | with_reducible refine Below.drew ?_ | with_reducible refine bl_alloc ?_ _ | with_reducible refine bl_call ?_ (by assumption) | (focus (with_reducible refine Below.setCell ?_ ?_ _; rotate_left; focus (first | omega | (simp <;> omega)))) | fail))) hb1
  refine ret_disk rfl (w.heap.size + 1) #[.slice A' l.length c', .slice none 0 0, .int .i64 (-1)] rfl rfl (by simpa using ((hk1.set 0 (.slice A' l.length c')).set 1 (.slice none 0 0)).set 2 (.int .i64 (-1))) rfl ?_
  have ho := own_far (own_far (own_far hown hk1 (by decide) 0 (.slice A' l.length c')) (hk1.set 0 _) (by decide) 1 (.slice none 0 0)) ((hk1.set 0 _).set 1 _) (by decide) 2 (.int .i64 (-1))
  exact ⟨_, _, rfl, ownsRow_mono ho (by simp <;> omega), by (repeat (first | with_reducible exact Below.refl _ _ | with_reducible assumption | with_reducible refine Below.drew ?_ | with_reducible refine bl_alloc ?_ _ | with_reducible refine bl_call ?_ (by assumption) | (focus (with_reducible refine Below.setCell ?_ ?_ _; rotate_left; focus (first | omega | (simp <;> omega)))) | fail))⟩

/-- The first 'k' pages' cells, their bytes in a block of their own, sector by sector. -/
def pagesAt (ws : List Value) (ga k : Nat) (ps : List Pg) : Prop :=
  ∀ j p, ps[j]? = some p → j < k → ws[j * 2]? = some (.int .i64 p.at_) ∧ ws[j * 2 + 1]? = some (.slice (some ⟨ga, j * 32, none⟩) 32 32)
/-- The first 'k' pages' bytes, sector by sector. -/
def bytesAt (bs : List Value) (k : Nat) (ps : List Pg) : Prop :=
  ∀ j p, ps[j]? = some p → j < k → ∀ t x, p.b[t]? = some x → bs[j * 32 + t]? = some (u8v x)

theorem pagesAt_succ {ws : List Value} {ga k : Nat} {ps : List Pg} {p : Pg} (h : pagesAt ws ga k ps) (hp : ps[k]? = some p) (hl : k * 2 + 1 < ws.length) :
    pagesAt ((ws.set (k * 2) (.int .i64 p.at_)).set (k * 2 + 1) (.slice (some ⟨ga, k * 32, none⟩) 32 32)) ga (k + 1) ps := by
  intro j q hq hj
  rcases Nat.lt_or_ge j k with h1 | h1
  · obtain ⟨a, b⟩ := h j q hq h1
    exact ⟨by rw [List.getElem?_set_ne (by omega), List.getElem?_set_ne (by omega)]; exact a, by rw [List.getElem?_set_ne (by omega), List.getElem?_set_ne (by omega)]; exact b⟩
  · obtain rfl : j = k := by omega
    rw [hp] at hq
    injection hq with hq
    subst hq
    exact ⟨by rw [List.getElem?_set_ne (by omega), List.getElem?_set_self (by omega)], by rw [List.getElem?_set_self (by simpa using hl)]⟩

/-- What clone answers: a disk of new memory, its pages' bytes in one block of their own. -/
def CloneOut (w' : World) (v : Value) (d : Dk) (base : Nat) : Prop :=
  ∃ (A' : Option Addr) (c' gw ga : Nat) (ws bs : List Value), v = .agg #[.slice A' d.dry.length c', .slice (some ⟨gw, 0, none⟩) d.wet.length d.wet.length, .int .i64 d.left] ∧
    w'.ownsRow base 5 1 (.slice A' d.dry.length c') d.dry.length (d.dry.map u8v) ∧ Blk w' gw 56 ws.toArray ∧ ws.length = d.wet.length * 2 ∧ Blk w' ga 5 bs.toArray ∧ bs.length = d.wet.length * 32 ∧
    pagesAt ws ga d.wet.length d.wet ∧ bytesAt bs d.wet.length d.wet ∧ base < gw ∧ base < ga ∧ VBelow ga (.slice A' d.dry.length c')

theorem splice_get {α : Type} (L : List α) (off : Nat) (cs : List α) (h : off + cs.length ≤ L.length) (i : Nat) :
    (splice L off cs)[i]? = if i < off then L[i]? else if i < off + cs.length then cs[i - off]? else L[i]? := by
  unfold splice
  have ht : (L.take off).length = off := by rw [List.length_take]; omega
  rw [List.getElem?_append, ht]
  split
  · rw [List.getElem?_take_of_lt (by omega)]
  · rw [List.getElem?_append]
    by_cases h2 : i < off + cs.length
    · rw [if_pos (by omega), if_pos h2]
    · rw [if_neg (by omega), if_neg h2, List.getElem?_drop]
      congr 1
      omega

theorem bytesAt_succ {bs : List Value} {k : Nat} {ps : List Pg} {p : Pg} (h : bytesAt bs k ps) (hp : ps[k]? = some p) (h32 : ∀ (j : Nat) (q : Pg), ps[j]? = some q → q.b.length = 32) (hl : k * 32 + 32 ≤ bs.length) :
    bytesAt (splice bs (k * 32) (p.b.map u8v)) (k + 1) ps := by
  intro j q hq hj t x hx
  have hq32 := h32 j q hq
  have hp32 := h32 k p hp
  have ht : t < 32 := by
    have := (List.getElem?_eq_some_iff.1 hx).1
    omega
  rw [splice_get _ _ _ (by simp [hp32]; omega)]
  simp only [List.length_map, hp32]
  rcases Nat.lt_or_ge j k with h1 | h1
  · rw [if_pos (by omega)]
    exact h j q hq h1 t x hx
  · obtain rfl : j = k := by omega
    rw [hp] at hq
    injection hq with hq
    subst hq
    rw [if_neg (by omega), if_pos (by omega), show j * 32 + t - j * 32 = t by omega, List.getElem?_map, hx]
    rfl

set_option maxHeartbeats 4000000 in
theorem clone_any (lo : Nat) (v : Value) (d : Dk) (w : World) (h : Dsk lo w.heap.size w v d) (hL : d.dry.length ≤ 1000000) (hW : d.wet.length ≤ 1000) (h32 : ∀ (j : Nat) (q : Pg), d.wet[j]? = some q → q.b.length = 32) :
    Calls Tryd.prog 48 #[v] w fun e w' => ∃ v', e = .returned v' ∧ CloneOut w' v' d w.heap.size ∧ Below w.heap.size w w' := by
  obtain ⟨va, vb, rfl, ha, hb⟩ := h
  have hcl := fun W hB => bclone lo va d.dry W ((ha.below hB (Nat.le_refl _)).mono (Nat.le_refl _) hB.size) hL
  have HCL := hide hcl; clear hcl
  obtain ⟨A, c, rfl, hlc, hc, hA, hcell⟩ := hb
  have HA := hide hA; have HC := hide hcell; clear hA hcell ha
  obtain ⟨i0, hi0, hz0, hz1, hz2⟩ := info_parts info41
  obtain ⟨i1, hi1, hy0, hy1, hy2⟩ := info_parts info5
  obtain ⟨Z, hZ⟩ : ∃ Z, Z = madeCells (Value.agg #[.int .i64 0, .slice none 0 0]).cells (d.wet.length * 2) := ⟨_, rfl⟩
  have hmk := run_mk (P := Tryd.prog) 29 56 i0 _ 2 Tryd.underlying29 hi0 hz0 hz1 d.wet.length (by rw [hz2]; omega) (by omega)
  rw [← hZ] at hmk
  have HZ := hide hZ; clear hZ
  go_enter Tryd.func48, Tryd.ntmps48
  go_upto_region 1 with fail
  go_cut [3] (fun s3 wx => ∃ (g : Nat) (A' : Option Addr) (c' gw : Nat), s3 = .pointer (some ⟨g, 0, none⟩) ∧ Hid (Blk wx g 31 #[.slice A' d.dry.length c', .slice (some ⟨gw, 0, none⟩) d.wet.length d.wet.length, .int .i64 d.left]) ∧ Hid (Blk wx gw 56 Z) ∧ Hid (wx.ownsRow w.heap.size 5 1 (.slice A' d.dry.length c') d.dry.length (d.dry.map u8v)) ∧ Hid (w.heap.size < g ∧ w.heap.size < gw) ∧ Hid (Below w.heap.size w wx) ∧ Hid (Blk wx w.heap.size 31 #[va, .slice A d.wet.length c, .int .i64 d.left]) ∧ Hid (Blk wx (w.heap.size + 1) 31 #[.slice none 0 0, .slice none 0 0, .int .i64 0]))
  case first =>
    go_region_held3 (fun W => W.cell? ⟨w.heap.size, 0, none⟩ = some va ∧ W.cell? ⟨w.heap.size, 1, none⟩ = some (.slice A d.wet.length c) ∧ W.cell? ⟨w.heap.size, 2, none⟩ = some (.int .i64 d.left)) (first | exact ⟨by go_simp, by go_simp, by go_simp⟩)
      (first | (go_at_call 51; refine (unhide HCL _ (by (repeat (first | with_reducible exact Below.refl _ _ | with_reducible assumption | with_reducible refine Below.drew ?_ | with_reducible refine bl_alloc ?_ _ | with_reducible refine bl_call ?_ (by assumption) | (focus (with_reducible refine Below.setCell ?_ ?_ _; rotate_left; focus (first | omega | (simp <;> omega)))) | fail)))).mono ?_; rintro e w1 ⟨A', c', rfl, hown, hb1⟩; (obtain ⟨hc1, hf1⟩ := bcell hb1; have hz1 := hb1.size; (try have y0 : w.heap.size < w1.heap.size := (by (simp at hz1; omega))); (try have y1 : w.heap.size + 1 < w1.heap.size := (by (simp at hz1; omega))); (try have y2 : w.heap.size + 2 < w1.heap.size := (by (simp at hz1; omega))); (try have y3 : w.heap.size + 3 < w1.heap.size := (by (simp at hz1; omega))); clear hz1)))
    all_goals (go_wp2_with fail; go_meet)
    all_goals
      have HB1 : Below w.heap.size w w1 := bl_call (by (repeat (first | with_reducible exact Below.refl _ _ | with_reducible assumption | with_reducible refine Below.drew ?_ | with_reducible refine bl_alloc ?_ _ | with_reducible refine bl_call ?_ (by assumption) | (focus (with_reducible refine Below.setCell ?_ ?_ _; rotate_left; focus (first | omega | (simp <;> omega)))) | fail))) hb1
      have KW : Blk w1 w.heap.size 31 #[va, .slice A d.wet.length c, .int .i64 d.left] := Blk.below (by (repeat (first | with_reducible assumption | (focus (with_reducible refine Blk.new ?_; focus (simp <;> fail))) | with_reducible refine Blk.set3 (a := .slice none 0 0) (b := .slice none 0 0) (c := .int .i64 0) ?_ | with_reducible refine Blk.alloc ?_ _ | with_reducible refine Blk.drew ?_ | (focus (with_reducible refine Blk.far ?_ ?_ _; rotate_left; focus (first | omega | (simp <;> omega)))) | (focus (with_reducible refine Blk.below ?_ hb1 ?_; rotate_left; focus (first | omega | (simp <;> omega)))) | fail))) hb1 (by simp <;> omega)
    all_goals refine ⟨_, A', c', _, rfl, (by (repeat (first | with_reducible assumption | (focus (with_reducible refine Blk.new ?_; focus (simp <;> fail))) | with_reducible refine Blk.set3 (a := .slice none 0 0) (b := .slice none 0 0) (c := .int .i64 0) ?_ | with_reducible refine Blk.alloc ?_ _ | with_reducible refine Blk.drew ?_ | (focus (with_reducible refine Blk.far ?_ ?_ _; rotate_left; focus (first | omega | (simp <;> omega)))) | (focus (with_reducible refine Blk.below ?_ hb1 ?_; rotate_left; focus (first | omega | (simp <;> omega)))) | fail)) : Blk _ _ _ _), (by (repeat (first | with_reducible assumption | (focus (with_reducible refine Blk.new ?_; focus (simp <;> fail))) | with_reducible refine Blk.set3 (a := .slice none 0 0) (b := .slice none 0 0) (c := .int .i64 0) ?_ | with_reducible refine Blk.alloc ?_ _ | with_reducible refine Blk.drew ?_ | (focus (with_reducible refine Blk.far ?_ ?_ _; rotate_left; focus (first | omega | (simp <;> omega)))) | (focus (with_reducible refine Blk.below ?_ hb1 ?_; rotate_left; focus (first | omega | (simp <;> omega)))) | fail)) : Blk _ _ _ _), ?_, ⟨?_, ?_⟩, (by (repeat (first | with_reducible exact Below.refl _ _ | with_reducible assumption | with_reducible refine Below.drew ?_ | with_reducible refine bl_alloc ?_ _ | with_reducible refine bl_call ?_ (by assumption) | (focus (with_reducible refine Below.setCell ?_ ?_ _; rotate_left; focus (first | omega | (simp <;> omega)))) | fail)) : Below _ _ _), (by (repeat (first | with_reducible assumption | (focus (with_reducible refine Blk.new ?_; focus (simp <;> fail))) | with_reducible refine Blk.set3 (a := .slice none 0 0) (b := .slice none 0 0) (c := .int .i64 0) ?_ | with_reducible refine Blk.alloc ?_ _ | with_reducible refine Blk.drew ?_ | (focus (with_reducible refine Blk.far ?_ ?_ _; rotate_left; focus (first | omega | (simp <;> omega)))) | (focus (with_reducible refine Blk.below ?_ hb1 ?_; rotate_left; focus (first | omega | (simp <;> omega)))) | fail)) : Blk _ _ _ _), (by (repeat (first | with_reducible assumption | (focus (with_reducible refine Blk.new ?_; focus (simp <;> fail))) | with_reducible refine Blk.set3 (a := .slice none 0 0) (b := .slice none 0 0) (c := .int .i64 0) ?_ | with_reducible refine Blk.alloc ?_ _ | with_reducible refine Blk.drew ?_ | (focus (with_reducible refine Blk.far ?_ ?_ _; rotate_left; focus (first | omega | (simp <;> omega)))) | (focus (with_reducible refine Blk.below ?_ hb1 ?_; rotate_left; focus (first | omega | (simp <;> omega)))) | fail)) : Blk _ _ _ _)⟩
    all_goals first | (show World.ownsRow _ _ _ _ _ _ _; (repeat (first | with_reducible refine World.ownsRow.alloc ?_ _ | (focus (with_reducible refine own_set3 (t := 31) (a := .slice none 0 0) (b := .slice none 0 0) (c := .int .i64 0) ?_ ?_ (by decide); rotate_left; focus (repeat (first | with_reducible assumption | (focus (with_reducible refine Blk.new ?_; focus (simp <;> fail))) | with_reducible refine Blk.set3 (a := .slice none 0 0) (b := .slice none 0 0) (c := .int .i64 0) ?_ | with_reducible refine Blk.alloc ?_ _ | with_reducible refine Blk.drew ?_ | (focus (with_reducible refine Blk.far ?_ ?_ _; rotate_left; focus (first | omega | (simp <;> omega)))) | (focus (with_reducible refine Blk.below ?_ hb1 ?_; rotate_left; focus (first | omega | (simp <;> omega)))) | fail)))) | (focus (with_reducible refine ownsRow_mono hown ?_; focus (first | omega | (simp <;> omega)))) | fail)); done) | omega | (simp <;> omega)
  case rest =>
    obtain ⟨g, A', c', gw, rfl, k1, k2, k3, k0, k4, k5, k6⟩ := hcut
    obtain ⟨y1, y2⟩ := unhide k0
    have hbig : d.wet.length * 32 ≤ 9223372036854775807 := by omega
    obtain ⟨n, hn⟩ : ∃ n, n = d.wet.length := ⟨_, rfl⟩
    obtain ⟨Z2, hZ2⟩ : ∃ Z2, Z2 = madeCells (Value.int .u8 0).cells (n * 32 * 1) := ⟨_, rfl⟩
    have hmk2 := run_mk (P := Tryd.prog) 28 5 i1 _ 1 Tryd.underlying28 hi1 hy0 hy1 (n * 32) (by rw [hy2]; omega) (by omega)
    rw [← hZ2] at hmk2
    simp only [Int.natCast_mul, Int.cast_ofNat_Int] at hmk2
    have HZ2 := hide hZ2; clear hZ2
    rw [← hn] at k1 k5 hmk hW hlc
    clear hmk
    have e1 : w.heap.size < wc.heap.size := (unhide k5).lt
    have e2 : g < wc.heap.size := (unhide k1).lt
    have e3 : gw < wc.heap.size := (unhide k2).lt
    have e6 : w.heap.size + 1 < wc.heap.size := (unhide k6).lt
    have d6 : w.heap.size + 1 ≠ gw := (unhide k6).ne_ (unhide k2) (by decide)
    have d1 : g ≠ gw := (unhide k1).ne_ (unhide k2) (by decide)
    have c0 := (unhide k5).cell 1
    simp at c0
    have hdry := hide (own_vbelow (unhide k3))
    have h32 := hide h32
    have HN := hide hn; clear hn
    rw [← HN.out]
    go_wp2_with fail
    obtain ⟨ga, hga⟩ : ∃ ga, ga = wc.heap.size := ⟨_, rfl⟩
    have hZl : Z.toList.length = n * 2 := by rw [HZ.out, HN.out]; simp [madeCells]
    have hZ2l : Z2.toList.length = n * 32 := by rw [HZ2.out]; simp [madeCells]
    go_loopw [25] (fun i wr => ∃ (k : Nat) (ws bs : List Value), k ≤ n ∧ i = .int .i64 k ∧ Hid (ws.length = n * 2) ∧ Hid (bs.length = n * 32) ∧ Hid (Blk wr g 31 #[.slice A' d.dry.length c', .slice (some ⟨gw, 0, none⟩) n n, .int .i64 d.left]) ∧ Hid (Blk wr gw 56 ws.toArray) ∧ Hid (Blk wr wc.heap.size 5 bs.toArray) ∧ Hid (pagesAt ws wc.heap.size k d.wet) ∧ Hid (bytesAt bs k d.wet) ∧ Hid (wr.ownsRow w.heap.size 5 1 (.slice A' d.dry.length c') d.dry.length (d.dry.map u8v)) ∧ Hid (Below w.heap.size w wr) ∧ Hid (Blk wr (w.heap.size + 1) 31 #[.slice none 0 0, .slice none 0 0, .int .i64 0])) (fun i _ => n - (intOf i).toNat)
    case atStart =>
      exact ⟨0, Z.toList, Z2.toList, Nat.zero_le _, rfl, hZl, hZ2l, (unhide k1).alloc _, hide (by simpa using (unhide k2).alloc _), hide (by simpa using (Blk.new rfl : Blk (wc.alloc (.cells Z2 5)) wc.heap.size 5 Z2)), fun j p _ h0 => absurd h0 (by omega), fun j p _ h0 => absurd h0 (by omega), (unhide k3).alloc _, bl_alloc (unhide k4) _, (unhide k6).alloc _⟩
    case round =>
      obtain ⟨k, ws, bs, hk, rfl, l1, l2, b1, b2, b3, p1, p2, o1, bl, b6⟩ := hrel
      clear k1 k2 k3 k4 k5 k6 c0 hmk2
      have z1 : g < wr.heap.size := (unhide b1).lt
      have z2 : gw < wr.heap.size := (unhide b2).lt
      have z3 : wc.heap.size < wr.heap.size := (unhide b3).lt
      by_cases hlt : k < n
      · obtain ⟨p, hp⟩ : ∃ p, d.wet[k]? = some p := ⟨_, List.getElem?_eq_getElem (by rw [← HN.out]; exact hlt)⟩
        obtain ⟨b, off, rfl, hb1, hb2⟩ := (unhide HA) (by rw [← HN.out]; omega)
        obtain ⟨cs, hcs, hcc, bv, rfl, hbv⟩ := (unhide HC) b off rfl k (by rw [← HN.out]; omega)
        have hpe : d.wet[k]'(by rw [← HN.out]; omega) = p := by
          rw [List.getElem?_eq_getElem (by rw [← HN.out]; exact hlt)] at hp
          injection hp
        rw [hpe] at hcc hbv
        have c0 := ((unhide bl).cell (p := ⟨b, off + k * 2 + 0, none⟩) hb2).trans (hcc 0 (by simp))
        have c1 := ((unhide bl).cell (p := ⟨b, off + k * 2 + 1, none⟩) hb2).trans (hcc 1 (by simp))
        have hp32 := (unhide h32) k p hp
        have hbv' := hbv
        obtain ⟨A2, c2, rfl, hl2, hc2, _⟩ := hbv'
        have hsrc := hbv.src.2
        simp only [List.getElem_cons_zero, List.getElem_cons_succ, Nat.add_zero] at c0 c1
        rw [hp32] at c1 hsrc
        have HS := hsrc
        clear hcc hcs hl2 hbv hsrc
        have g1 := (unhide b1).cell 1
        simp at g1
        obtain ⟨o0, ho0⟩ : ∃ o0, ws[k * 2]? = some o0 := ⟨_, List.getElem?_eq_getElem (by rw [l1.out]; omega)⟩
        obtain ⟨o1', ho1⟩ : ∃ o1, ws[k * 2 + 1]? = some o1 := ⟨_, List.getElem?_eq_getElem (by rw [l1.out]; omega)⟩
        have w0 := ((unhide b2).cell (k * 2)).trans (by simpa using ho0)
        have w1 := ((unhide b2).cell (k * 2 + 1)).trans (by simpa using ho1)
        have f0 := (unhide b2).frozen (k * 2)
        have f1 := (unhide b2).frozen (k * 2 + 1)
        have HP := hide hp; have HP32 := hide hp32; have HO0 := hide ho0; have HO1 := hide ho1; have HPE := hide hpe
        clear hp hp32 ho0 ho1 hpe
        have i1 : (0 : Int) ≤ (k : Int) := by omega
        have i2 : (k : Int) < (n : Int) := by omega
        have i3 : k * 32 + 32 ≤ n * 32 := by omega
        go_wp2_with fail
        go_region_held3 (fun W => W.cell? ⟨g, 1, none⟩ = some (.slice (some ⟨gw, 0, none⟩) n n) ∧ W.cell? ⟨wr.heap.size, 0, none⟩ = some (.int .i64 p.at_)) (first | exact ⟨by go_simp, by go_simp⟩)
          (first | (go_at_call 54; refine (sector_any wc.heap.size 0 (n * 32) (n * 32) k _ (by omega) (by omega)).mono ?_; rintro e w2 ⟨rfl, rfl⟩))
        go_wp2_with fail
        generalize hW7 : World.drew _ = W7
        have K0 := (((unhide b2).set (k * 2) (.int .i64 p.at_)).set (k * 2 + 1) (.slice (some ⟨wc.heap.size, k * 32, none⟩) 32 32)).alloc (.cells #[.int .i64 p.at_, .slice A2 32 c2] 56) |>.drew
        have K1 := (((unhide b1).far (p := ⟨gw, k * 2, none⟩) d1 (.int .i64 p.at_)).far (p := ⟨gw, k * 2 + 1, none⟩) d1 (.slice (some ⟨wc.heap.size, k * 32, none⟩) 32 32)).alloc (.cells #[.int .i64 p.at_, .slice A2 32 c2] 56) |>.drew
        have K2 := (((unhide b3).far (p := ⟨gw, k * 2, none⟩) (Nat.ne_of_gt e3) (.int .i64 p.at_)).far (p := ⟨gw, k * 2 + 1, none⟩) (Nat.ne_of_gt e3) (.slice (some ⟨wc.heap.size, k * 32, none⟩) 32 32)).alloc (.cells #[.int .i64 p.at_, .slice A2 32 c2] 56) |>.drew
        have K3 : Blk _ wr.heap.size 56 #[.int .i64 p.at_, .slice A2 32 c2] := (Blk.new (w := (wr.setCell ⟨gw, k * 2, none⟩ (.int .i64 p.at_)).setCell ⟨gw, k * 2 + 1, none⟩ (.slice (some ⟨wc.heap.size, k * 32, none⟩) 32 32)) (by simp)).drew
        have KB : Below w.heap.size w _ := ((((unhide bl).setCell (p := ⟨gw, k * 2, none⟩) (Nat.le_of_lt y2) (.int .i64 p.at_)).setCell (p := ⟨gw, k * 2 + 1, none⟩) (Nat.le_of_lt y2) (.slice (some ⟨wc.heap.size, k * 32, none⟩) 32 32)).alloc (by simp; omega) (.cells #[.int .i64 p.at_, .slice A2 32 c2] 56)).drew
        have KO := ((own_far (own_far (unhide o1) (unhide b2) (by decide) (k * 2) (.int .i64 p.at_)) ((unhide b2).set _ _) (by decide) (k * 2 + 1) (.slice (some ⟨wc.heap.size, k * 32, none⟩) 32 32)).alloc (.cells #[.int .i64 p.at_, .slice A2 32 c2] 56))
        have K6 := (((unhide b6).far (p := ⟨gw, k * 2, none⟩) d6 (.int .i64 p.at_)).far (p := ⟨gw, k * 2 + 1, none⟩) d6 (.slice (some ⟨wc.heap.size, k * 32, none⟩) 32 32)).alloc (.cells #[.int .i64 p.at_, .slice A2 32 c2] 56) |>.drew
        rw [hW7] at K0 K1 K2 K3 KB K6
        have KO' : W7.ownsRow w.heap.size 5 1 (.slice A' d.dry.length c') d.dry.length (d.dry.map u8v) := by rw [← hW7]; exact KO
        clear KO hW7 b1 b2 b3 o1 bl b6 w0 w1 f0 f1 c0 c1 g1
        have g1 := K1.cell 1
        have g2 := K0.cell (k * 2 + 1)
        have g3 := K3.cell 1
        have kl : k * 2 + 1 < ws.length := by rw [l1.out]; omega
        simp [kl] at g1 g2 g3
        have HS7 := HS.below KB
        have K0 := hide K0; have K1 := hide K1; have K2 := hide K2; have K3 := hide K3; have KB := hide KB; have K6 := hide K6; have KO' := hide KO'
        have x1 : (p.b.map u8v).length = Nat.min 32 32 := by simp [HP32.out]
        have x2 : k * 32 + (p.b.map u8v).length ≤ bs.length := by simp [HP32.out, l2.out]; omega
        obtain ⟨src, hsrc⟩ : ∃ src, src = p.b.map u8v := ⟨_, rfl⟩
        rw [← hsrc] at x1 x2 HS7
        have x3 : ∀ v ∈ src, v.oneCell' = true := by rw [hsrc]; exact u8s_one _
        have x1 := hide x1; have x2 := hide x2; have x3 := hide x3; have hsrc := hide hsrc
        clear kl z1 z2 z3
        have x4 : ∀ W7' : World, W7'.heap = W7.heap → (0 < src.length → (some (⟨wc.heap.size, k * 32, none⟩ : Addr)) = some ⟨wc.heap.size, k * 32, none⟩ ∧ ∃ ad, A2 = some ad ∧ ∀ j v, src[j]? = some v → W7'.cell? (ad.add j) = some v) := by
          intro W7' hh _
          obtain ⟨ad, e, hc⟩ := HS7 (by omega)
          exact ⟨rfl, ad, e, fun j v hv => (World.cell?_of_block (by rw [hh])).trans (hc j v hv)⟩
        have x4 := hide x4
        go_region_law (refine step_copy_splice rfl (.tmp 45) (.tmp 47) 28 28 rfl 5 Tryd.underlying28 (by kernel_rfl) _ _ _ _ _ _ rfl rfl wc.heap.size (k * 32) bs 5 (unhide K2) src x1.out (x4.out _ rfl) x2.out x3.out wc.heap.size _ (Below.refl _ _) (Nat.le_refl _) ?_; intro w8 hg8 hb8)
        all_goals
          have hb8' : Below wc.heap.size W7 w8 := ⟨hb8.os, hb8.tape, hb8.output, hb8.size, hb8.block⟩
          have N1 := hide ((unhide K1).below hb8' e2)
          have N0 := hide ((unhide K0).below hb8' e3)
          have NB := hide ((unhide KB).trans (hb8'.mono (Nat.le_of_lt e1)))
          clear x4 HS7 g1 g2 g3
          go_wp2_with fail
          go_roundw
          case rel =>
            refine ⟨k + 1, _, _, by omega, by go_num, ?_, ?_, N1, hide (by simpa using unhide N0), hg8, ?_, ?_, ?_, NB, hide ((unhide K6).below hb8' e6)⟩
            · show Hid _
              exact hide (by simpa using l1.out)
            · exact hide (by rw [length_splice _ _ _ (unhide x2)]; exact l2.out)
            · exact hide (pagesAt_succ (unhide p1) (unhide HP) (by rw [l1.out]; omega))
            · rw [unhide hsrc]
              exact hide (bytesAt_succ (unhide p2) (unhide HP) (unhide h32) (by rw [l2.out]; omega))
            · exact hide (own_below2 (unhide KO') hb8' (unhide hdry))
          case measure => simp [intOf]; omega
      · obtain rfl : k = n := by omega
        have q0 := (unhide b1).cell 0
        have q1 := (unhide b1).cell 1
        have q2 := (unhide b1).cell 2
        have r0 := (unhide b6).cell 0
        have r1 := (unhide b6).cell 1
        have r2 := (unhide b6).cell 2
        have s0 := (unhide b6).frozen 0
        have s1 := (unhide b6).frozen 1
        have s2 := (unhide b6).frozen 2
        simp at q0 q1 q2 r0 r1 r2
        clear hZl hZ2l hlt
        go_wp2_with fail
        refine ret_disk rfl (w.heap.size + 1) #[.slice A' d.dry.length c', .slice (some ⟨gw, 0, none⟩) k k, .int .i64 d.left] rfl rfl (unhide b6).set3 rfl ?_
        refine ⟨_, rfl, ⟨A', c', gw, wc.heap.size, ws, bs, by rw [← HN.out], own_set3 (unhide o1) (unhide b6) (by decide), ?_, by rw [← HN.out]; exact l1.out, ?_, by rw [← HN.out]; exact l2.out, by rw [← HN.out]; exact unhide p1, by rw [← HN.out]; exact unhide p2, y2, e1, unhide hdry⟩, ?_⟩
        · exact (((unhide b2).far (p := ⟨w.heap.size + 1, 0, none⟩) (Ne.symm d6) _).far (p := ⟨w.heap.size + 1, 1, none⟩) (Ne.symm d6) _).far (p := ⟨w.heap.size + 1, 2, none⟩) (Ne.symm d6) _
        · exact (((unhide b3).far (p := ⟨w.heap.size + 1, 0, none⟩) (Nat.ne_of_gt e6) _).far (p := ⟨w.heap.size + 1, 1, none⟩) (Nat.ne_of_gt e6) _).far (p := ⟨w.heap.size + 1, 2, none⟩) (Nat.ne_of_gt e6) _
        · have bl' := unhide bl
          (repeat (first | with_reducible exact Below.refl _ _ | with_reducible assumption | with_reducible refine Below.drew ?_ | with_reducible refine bl_alloc ?_ _ | with_reducible refine bl_call ?_ (by assumption) | (focus (with_reducible refine Below.setCell ?_ ?_ _; rotate_left; focus (first | omega | (simp <;> omega)))) | fail))

end Go.Proofs.YtommlgdolahfbaaDoor
