import Derived.Test.YtommlgdolahfbaaDoorS54
import Derived.Test.YtommlgdolahfbaaDoorW20
namespace Go.Proofs.YtommlgdolahfbaaDoor
set_option maxRecDepth 100000
open Go.RowKit

theorem syAt_all {d : Dk} : synD d = if okD d then (if d.left = 0 then (noDk, 11) else (⟨syAt d.dry d.wet d.wet.length, [], less d.left⟩, 0)) else (noDk, 1) := rfl

set_option maxHeartbeats 1000000 in
theorem refsync_bad (lo : Nat) (v : Value) (d : Dk) (w : World) (h : Dsk lo w.heap.size w v d) (hq : okD d = false) :
    Calls Tryd.prog 40 #[v] w fun e w' => e = .returned (.tuple #[.agg #[.slice none 0 0, .slice none 0 0, .int .i64 0], .int .i64 1]) ∧ Below w.heap.size w w' := by
  have hck : ∀ W, Below w.heap.size w W → Calls Tryd.prog 38 #[v] W fun e w' => e = .returned (.int .i64 (badE false)) ∧ Below W.heap.size W w' :=
    fun W hB => by have := refcheck_any lo v d W ((h.below hB (Nat.le_refl _)).mono (Nat.le_refl _) hB.size); rwa [hq] at this
  obtain ⟨A, c, A', c', rfl⟩ := h.form
  replace hck := hide hck; replace hq := hide hq; replace h := hide h
  have b1 : (badE false != 0) = true := rfl
  go_enter Tryd.func40, Tryd.ntmps40
  go_wp2_with (first
    | (go_at_call 38; refine (unhide hck _ (by (repeat (first | with_reducible exact Below.refl _ _ | with_reducible assumption | with_reducible refine Below.drew ?_ | with_reducible refine bl_alloc ?_ _ | with_reducible refine bl_call ?_ (by assumption) | (focus (with_reducible refine Below.setCell ?_ ?_ _; rotate_left; focus (first | omega | (simp <;> omega)))) | fail)))).mono ?_; rintro e w1 ⟨rfl, hb1⟩; have HB1 : Below w.heap.size w w1 := bl_call (by (repeat (first | with_reducible exact Below.refl _ _ | with_reducible assumption | with_reducible refine Below.drew ?_ | with_reducible refine bl_alloc ?_ _ | with_reducible refine bl_call ?_ (by assumption) | (focus (with_reducible refine Below.setCell ?_ ?_ _; rotate_left; focus (first | omega | (simp <;> omega)))) | fail))) hb1; have hk := hide (Blk.below (g := w.heap.size + 1) (t := 31) (cs := #[.slice none 0 0, .slice none 0 0, .int .i64 0]) (Blk.new (by simp)) hb1 (by simp)); have f0 := (unhide hk).frozen 0; have f1 := (unhide hk).frozen 1; have f2 := (unhide hk).frozen 2; have r0 := (unhide hk).cell 0; have r1 := (unhide hk).cell 1; have r2 := (unhide hk).cell 2; simp at r0 r1 r2; (obtain ⟨hc1, hf1⟩ := bcell hb1; have hz1 := hb1.size; (try have y0 : w.heap.size < w1.heap.size := (by (simp at hz1; omega))); (try have y1 : w.heap.size + 1 < w1.heap.size := (by (simp at hz1; omega))); (try have y2 : w.heap.size + 2 < w1.heap.size := (by (simp at hz1; omega))); (try have y3 : w.heap.size + 3 < w1.heap.size := (by (simp at hz1; omega))); clear hz1))
    | fail)
  refine ret_disk2 rfl (w.heap.size + 1) #[.slice none 0 0, .slice none 0 0, .int .i64 0] rfl (.int .i64 1) rfl rfl (unhide hk).set3 rfl ⟨rfl, ?_⟩
  (repeat (first | with_reducible exact Below.refl _ _ | with_reducible assumption | with_reducible refine Below.drew ?_ | with_reducible refine bl_alloc ?_ _ | with_reducible refine bl_call ?_ (by assumption) | (focus (with_reducible refine Below.setCell ?_ ?_ _; rotate_left; focus (first | omega | (simp <;> omega)))) | fail))

set_option maxHeartbeats 1000000 in
theorem refsync_dead (lo : Nat) (v : Value) (d : Dk) (w : World) (h : Dsk lo w.heap.size w v d) (hq : okD d = true) (h0 : d.left = 0) :
    Calls Tryd.prog 40 #[v] w fun e w' => e = .returned (.tuple #[.agg #[.slice none 0 0, .slice none 0 0, .int .i64 0], .int .i64 11]) ∧ Below w.heap.size w w' := by
  have hck : ∀ W, Below w.heap.size w W → Calls Tryd.prog 38 #[v] W fun e w' => e = .returned (.int .i64 (badE true)) ∧ Below W.heap.size W w' :=
    fun W hB => by have := refcheck_any lo v d W ((h.below hB (Nat.le_refl _)).mono (Nat.le_refl _) hB.size); rwa [hq] at this
  obtain ⟨A, c, A', c', rfl⟩ := h.form
  rw [h0] at hck ⊢
  have hdd := fun W => refdeed_dead (.slice A d.dry.length c) (.slice A' d.wet.length c') W
  replace hck := hide hck; replace hdd := hide hdd
  clear h hq h0
  have b1 : (badE true != 0) = false := rfl
  go_enter Tryd.func40, Tryd.ntmps40
  go_wp2_with (first
    | (go_at_call 38; refine (unhide hck _ (by (repeat (first | with_reducible exact Below.refl _ _ | with_reducible assumption | with_reducible refine Below.drew ?_ | with_reducible refine bl_alloc ?_ _ | with_reducible refine bl_call ?_ (by assumption) | (focus (with_reducible refine Below.setCell ?_ ?_ _; rotate_left; focus (first | omega | (simp <;> omega)))) | fail)))).mono ?_; rintro e w1 ⟨rfl, hb1⟩; have HB1 : Below w.heap.size w w1 := bl_call (by (repeat (first | with_reducible exact Below.refl _ _ | with_reducible assumption | with_reducible refine Below.drew ?_ | with_reducible refine bl_alloc ?_ _ | with_reducible refine bl_call ?_ (by assumption) | (focus (with_reducible refine Below.setCell ?_ ?_ _; rotate_left; focus (first | omega | (simp <;> omega)))) | fail))) hb1
       have kb1 := Blk.below (g := w.heap.size) (t := 31) (cs := #[.slice A d.dry.length c, .slice A' d.wet.length c', .int .i64 0]) (by (repeat (first | with_reducible assumption | (focus (with_reducible refine Blk.new ?_; focus (simp <;> fail))) | with_reducible refine Blk.set3 (a := .slice none 0 0) (b := .slice none 0 0) (c := .int .i64 0) ?_ | with_reducible refine Blk.alloc ?_ _ | with_reducible refine Blk.drew ?_ | (focus (with_reducible refine Blk.far ?_ ?_ _; rotate_left; focus (first | omega | (simp <;> omega)))) | (focus (with_reducible refine Blk.below ?_ hb1 ?_; rotate_left; focus (first | omega | (simp <;> omega)))) | fail))) hb1 (by simp <;> omega)
       have kr1 := Blk.below (g := w.heap.size + 1) (t := 31) (cs := #[.slice none 0 0, .slice none 0 0, .int .i64 0]) (by (repeat (first | with_reducible assumption | (focus (with_reducible refine Blk.new ?_; focus (simp <;> fail))) | with_reducible refine Blk.set3 (a := .slice none 0 0) (b := .slice none 0 0) (c := .int .i64 0) ?_ | with_reducible refine Blk.alloc ?_ _ | with_reducible refine Blk.drew ?_ | (focus (with_reducible refine Blk.far ?_ ?_ _; rotate_left; focus (first | omega | (simp <;> omega)))) | (focus (with_reducible refine Blk.below ?_ hb1 ?_; rotate_left; focus (first | omega | (simp <;> omega)))) | fail))) hb1 (by simp <;> omega)
       have k0 := kb1.cell 0; have k1 := kb1.cell 1; have k2 := kb1.cell 2
       simp at k0 k1 k2
       have z0 := kb1.lt
       replace HB1 := hide HB1; replace kb1 := hide kb1; replace kr1 := hide kr1; clear hb1)
    | (go_at_call 57; refine (unhide hdd _).mono ?_; rintro e w2 ⟨rfl, hb2⟩
       clear k0 k1 k2 z0
       have kb := (unhide kb1).below hb2 (unhide kb1).lt
       have kr := (unhide kr1).below hb2 (unhide kr1).lt
       have HB2 : Below w.heap.size w w2 := bl_call (unhide HB1) hb2
       have f0 := kb.frozen 0; have f1 := kb.frozen 1; have f2 := kb.frozen 2
       have k0 := kb.cell 0; have k1 := kb.cell 1; have k2 := kb.cell 2
       have e0 := kr.frozen 0; have e1 := kr.frozen 1; have e2 := kr.frozen 2
       have r0 := kr.cell 0; have r1 := kr.cell 1; have r2 := kr.cell 2
       simp at k0 k1 k2 r0 r1 r2
       have z0 := kb.lt; have z1 := kr.lt
       replace HB2 := hide HB2; replace kb := hide kb; replace kr := hide kr; clear hb2)
    | fail)
  have Kr2 := (((unhide kr).far (p := ⟨w.heap.size, 0, none⟩) (by simp) (.slice none 0 0)).far (p := ⟨w.heap.size, 1, none⟩) (by simp) (.slice none 0 0)).far (p := ⟨w.heap.size, 2, none⟩) (by simp) (.int .i64 0)
  refine ret_disk2 rfl (w.heap.size + 1) #[.slice none 0 0, .slice none 0 0, .int .i64 0] rfl (.int .i64 11) rfl rfl Kr2.set3 rfl ⟨rfl, ?_⟩
  exact ((((((unhide HB2).setCell (Nat.le_refl _) _).setCell (Nat.le_refl _) _).setCell (Nat.le_refl _) _).setCell (by simp) _).setCell (by simp) _).setCell (by simp) _

set_option maxRecDepth 100000 in
set_option maxHeartbeats 1000000 in
theorem refsync_good (lo : Nat) (v : Value) (d : Dk) (w : World) (h : Dsk lo w.heap.size w v d) (hq : okD d = true) (h0 : d.left ≠ 0) (hL : d.dry.length ≤ 1000000) (hW : d.wet.length ≤ 1000) :
    Calls Tryd.prog 40 #[v] w fun e w' => ∃ v', e = .returned (.tuple #[v', .int .i64 0]) ∧ Dsk w.heap.size w'.heap.size w' v' ⟨syAt d.dry d.wet d.wet.length, [], less d.left⟩ ∧ Below w.heap.size w w' := by
  have hck : ∀ W, Below w.heap.size w W → Calls Tryd.prog 38 #[v] W fun e w' => e = .returned (.int .i64 (badE true)) ∧ Below W.heap.size W w' :=
    fun W hB => by have := refcheck_any lo v d W ((h.below hB (Nat.le_refl _)).mono (Nat.le_refl _) hB.size); rwa [hq] at this
  obtain ⟨_, hge, _, hle, hr, hp⟩ := okD_parts hq
  have hcp := fun W (hB : Below w.heap.size w W) => refdeed_goes lo v d W ((h.below hB (Nat.le_refl _)).mono (Nat.le_refl _) hB.size) hle h0 hL hW (fun j q hj => by have := (hp j q hj).2.2; omega)
  obtain ⟨A1, c1, A, c, rfl⟩ := h.form
  clear h
  obtain ⟨n, hn⟩ : ∃ n, n = d.wet.length := ⟨_, rfl⟩
  obtain ⟨X, hX⟩ : ∃ X, X = less d.left := ⟨_, rfl⟩
  rw [← hn] at hck hcp hW ⊢
  rw [← hX] at hcp ⊢
  have b1 : (badE true != 0) = false := rfl
  replace hck := hide hck; replace hcp := hide hcp; replace hr := hide hr; replace hp := hide hp; replace hn := hide hn; replace hX := hide hX
  replace hq := hide hq; replace hle := hide hle
  go_enter Tryd.func40, Tryd.ntmps40
  go_wp2_with (first
    | (go_at_call 38; refine (unhide hck _ (by (repeat (first | with_reducible exact Below.refl _ _ | with_reducible assumption | with_reducible refine Below.drew ?_ | with_reducible refine bl_alloc ?_ _ | with_reducible refine bl_call ?_ (by assumption) | (focus (with_reducible refine Below.setCell ?_ ?_ _; rotate_left; focus (first | omega | (simp <;> omega)))) | fail)))).mono ?_; rintro e w1 ⟨rfl, hb1⟩; have HB1 : Below w.heap.size w w1 := bl_call (by (repeat (first | with_reducible exact Below.refl _ _ | with_reducible assumption | with_reducible refine Below.drew ?_ | with_reducible refine bl_alloc ?_ _ | with_reducible refine bl_call ?_ (by assumption) | (focus (with_reducible refine Below.setCell ?_ ?_ _; rotate_left; focus (first | omega | (simp <;> omega)))) | fail))) hb1
       have kb := hide (Blk.below (g := w.heap.size) (t := 31) (cs := #[.slice A1 d.dry.length c1, .slice A n c, .int .i64 d.left]) (by (repeat (first | with_reducible assumption | (focus (with_reducible refine Blk.new ?_; focus (simp <;> fail))) | with_reducible refine Blk.set3 (a := .slice none 0 0) (b := .slice none 0 0) (c := .int .i64 0) ?_ | with_reducible refine Blk.alloc ?_ _ | with_reducible refine Blk.drew ?_ | (focus (with_reducible refine Blk.far ?_ ?_ _; rotate_left; focus (first | omega | (simp <;> omega)))) | (focus (with_reducible refine Blk.below ?_ hb1 ?_; rotate_left; focus (first | omega | (simp <;> omega)))) | fail))) hb1 (by simp <;> omega))
       have kr := hide (Blk.below (g := w.heap.size + 1) (t := 31) (cs := #[.slice none 0 0, .slice none 0 0, .int .i64 0]) (by (repeat (first | with_reducible assumption | (focus (with_reducible refine Blk.new ?_; focus (simp <;> fail))) | with_reducible refine Blk.set3 (a := .slice none 0 0) (b := .slice none 0 0) (c := .int .i64 0) ?_ | with_reducible refine Blk.alloc ?_ _ | with_reducible refine Blk.drew ?_ | (focus (with_reducible refine Blk.far ?_ ?_ _; rotate_left; focus (first | omega | (simp <;> omega)))) | (focus (with_reducible refine Blk.below ?_ hb1 ?_; rotate_left; focus (first | omega | (simp <;> omega)))) | fail))) hb1 (by simp))
       have k0 := (unhide kb).cell 0; have k1 := (unhide kb).cell 1; have k2 := (unhide kb).cell 2
       simp at k0 k1 k2
       have y0 := (unhide kb).lt; have y1 := (unhide kr).lt)
    | (go_at_call 57; refine (unhide hcp _ HB1).mono ?_; rintro e w2 ⟨A3, c3, Aw, cw, rfl, hco, hb2⟩
       obtain ⟨A3', c3', Aw', cw', B, e9, hD, hDB, hB1, hB2, hPg⟩ := hco
       simp only [Value.agg.injEq, Array.mk.injEq, List.cons.injEq, and_true] at e9
       obtain ⟨e91, e92⟩ := e9
       rw [← e91] at hD hDB
       rw [← e92] at hPg
       clear e91 e92
       have HB2 : Below w.heap.size w w2 := bl_call HB1 hb2
       replace kb := hide ((unhide kb).below hb2 y0); replace kr := hide ((unhide kr).below hb2 y1)
       clear k0 k1 k2
       have f0 := (unhide kb).frozen 0; have f1 := (unhide kb).frozen 1; have f2 := (unhide kb).frozen 2
       have k0 := (unhide kb).cell 0; have k1 := (unhide kb).cell 1; have k2 := (unhide kb).cell 2
       simp at k0 k1 k2
       have z0 := (unhide kb).lt; have z1 := (unhide kr).lt
       replace hD := hide hD; replace hDB := hide hDB; replace hPg := hide hPg; replace HB2 := hide HB2)
    | fail)
  have Kb : Blk (((w2.setCell ⟨w.heap.size, 0, none⟩ (.slice A3 d.dry.length c3)).setCell ⟨w.heap.size, 1, none⟩ (.slice Aw n cw)).setCell ⟨w.heap.size, 2, none⟩ (.int .i64 X)) w.heap.size 31 #[.slice A3 d.dry.length c3, .slice Aw n cw, .int .i64 X] := (unhide kb).set3
  have Kr : Blk (((w2.setCell ⟨w.heap.size, 0, none⟩ (.slice A3 d.dry.length c3)).setCell ⟨w.heap.size, 1, none⟩ (.slice Aw n cw)).setCell ⟨w.heap.size, 2, none⟩ (.int .i64 X)) (w.heap.size + 1) 31 #[.slice none 0 0, .slice none 0 0, .int .i64 0] := (((unhide kr).far (by simp) _).far (by simp) _).far (by simp) _
  have Dr := own_set3 (x := .slice A3 d.dry.length c3) (y := .slice Aw n cw) (z := .int .i64 X) (unhide hD) (unhide kb) (by decide)
  have wB : w.heap.size < B := by omega
  have Pa : Pgs B w2.heap.size (((w2.setCell ⟨w.heap.size, 0, none⟩ (.slice A3 d.dry.length c3)).setCell ⟨w.heap.size, 1, none⟩ (.slice Aw n cw)).setCell ⟨w.heap.size, 2, none⟩ (.int .i64 X)) (.slice Aw n cw) d.wet := (unhide hPg).keep (fun k h1 _ => ((Below.heap_setCell _ _ _ k (by simp; omega)).trans (Below.heap_setCell _ _ _ k (by simp; omega))).trans (Below.heap_setCell _ _ _ k (by simp; omega)))
  have ba : Below w.heap.size w (((w2.setCell ⟨w.heap.size, 0, none⟩ (.slice A3 d.dry.length c3)).setCell ⟨w.heap.size, 1, none⟩ (.slice Aw n cw)).setCell ⟨w.heap.size, 2, none⟩ (.int .i64 X)) := (((unhide HB2).setCell (Nat.le_refl _) _).setCell (Nat.le_refl _) _).setCell (Nat.le_refl _) _
  have hsz : (((w2.setCell ⟨w.heap.size, 0, none⟩ (.slice A3 d.dry.length c3)).setCell ⟨w.heap.size, 1, none⟩ (.slice Aw n cw)).setCell ⟨w.heap.size, 2, none⟩ (.int .i64 X)).heap.size = w2.heap.size := by simp
  generalize ((w2.setCell ⟨w.heap.size, 0, none⟩ (.slice A3 d.dry.length c3)).setCell ⟨w.heap.size, 1, none⟩ (.slice Aw n cw)).setCell ⟨w.heap.size, 2, none⟩ (.int .i64 X) = wa at *
  obtain ⟨gD, capD, cur, hA', hgD, hbD, hncD, hcm, hszD, htkD⟩ : ∃ gD capD, ∃ cur : Array Value, (Value.slice A3 d.dry.length c3) = .slice (some ⟨gD, 0, none⟩) d.dry.length capD ∧ w1.heap.size + 2 ≤ gD ∧ Blk wa gD 5 cur ∧ d.dry.length ≤ capD ∧ capD ≤ maxLen ∧ cur.size = capD * 1 ∧ cur.toList.take (d.dry.length * 1) = d.dry.map u8v := by
    rcases Dr.2 with ⟨_, h0⟩ | ⟨g, cap, cur, x1, x2, x3, x4, x5, x6, x7⟩
    · have h0' : d.dry.length = 0 := h0
      omega
    · exact ⟨g, cap, cur, x1, x2, x3, x4, x5, x6, x7⟩
  injection hA' with hA1 _ hA2
  subst hA1 hA2
  obtain ⟨S, hS⟩ : ∃ S, cur.toList = d.dry.map u8v ++ S := ⟨cur.toList.drop (d.dry.length * 1), by rw [← htkD, List.take_append_drop]⟩
  have hbD' : Hid (Blk wa gD 5 (d.dry.map u8v ++ S).toArray) := by
    have : cur = (d.dry.map u8v ++ S).toArray := by rw [← hS, Array.toArray_toList]
    rw [← this]; exact hbD
  have gB : gD < B := unhide hDB _ _ _ rfl
  have hcap : c3 ≤ 9223372036854775807 := by simpa [maxLen] using hcm
  have nD0 : w.heap.size ≠ gD := by omega
  have nD1 : w.heap.size + 1 ≠ gD := by omega
  have wD : w.heap.size ≤ gD := by omega
  have B2a : B ≤ w2.heap.size := hB2
  clear hS htkD hszD hbD hD hDB hcm kb kr HB2 hPg HB1 hb1 hb2 f0 f1 f2 k0 k1 k2 y0 y1 z0 z1 Dr hck hcp
  have s0 := Kb.cell 0
  have s1 := Kb.cell 1
  simp at s0 s1
  generalize w2.heap.size = H2 at *
  obtain ⟨A4, c4, e4, _, _, hpA, hpC⟩ := Pa
  rw [← unhide hn] at e4
  injection e4 with e41 e42 e43
  subst e41 e43
  clear e42
  replace Kb := hide Kb; replace Kr := hide Kr; replace ba := hide ba; replace hpA := hide hpA; replace hpC := hide hpC; replace hsz := hide hsz
  go_loopw [23] (fun i wr => ∃ k : Nat, k ≤ n ∧ i = .int .i64 k ∧ Hid (Blk wr gD 5 ((syAt d.dry d.wet k).map u8v ++ S).toArray) ∧ Hid (Blk wr w.heap.size 31 #[.slice (some ⟨gD, 0, none⟩) d.dry.length c3, .slice Aw n cw, .int .i64 X]) ∧ Hid (Blk wr (w.heap.size + 1) 31 #[.slice none 0 0, .slice none 0 0, .int .i64 0]) ∧ Hid (Agree B H2 wa wr) ∧ Hid (H2 ≤ wr.heap.size) ∧ Hid (Below w.heap.size w wr)) (fun i _ => n - (intOf i).toNat)
  case atStart => exact ⟨0, Nat.zero_le _, rfl, hbD', Kb, Kr, hide (Agree.refl _ _ _), hide (Nat.le_of_eq (unhide hsz).symm), ba⟩
  case round =>
    obtain ⟨k, hk, rfl, q1, q2, q3, q5, q6, q4⟩ := hrel
    clear s0 s1 Kb Kr ba hbD'
    have g0 := (unhide q2).cell 0
    have g1 := (unhide q2).cell 1
    simp at g0 g1
    have l1 := (unhide q1).lt
    have l2 := (unhide q2).lt
    by_cases hlt : k < n
    · have hlt1 : k < d.wet.length := by rw [← unhide hn]; exact hlt
      obtain ⟨b, off, rfl, hb1', hb2'⟩ := (unhide hpA) (by omega)
      obtain ⟨cs, hcs, hcc, bv, rfl, hbv⟩ := (unhide hpC) b off rfl k hlt1
      obtain ⟨p, hpe⟩ : ∃ p, d.wet[k] = p := ⟨_, rfl⟩
      have hpk : d.wet[k]? = some p := by rw [List.getElem?_eq_getElem hlt1, hpe]
      rw [hpe] at hcc hbv
      obtain ⟨pa, pb, pc⟩ := (unhide hp) k p hpk
      have ag := unhide q5
      have c0 := (World.cell?_of_block (a := ⟨b, off + k * 2 + 0, none⟩) (ag b hb1' hb2')).trans (hcc 0 (by simp))
      have c1' := (World.cell?_of_block (a := ⟨b, off + k * 2 + 1, none⟩) (ag b hb1' hb2')).trans (hcc 1 (by simp))
      obtain ⟨A2, c2, rfl, x1, x2, x3⟩ := hbv
      obtain ⟨b2', o2, rfl, hb2ge, hb2lt, hcell2⟩ := x3 (by omega)
      simp only [List.getElem_cons_zero, List.getElem_cons_succ, Nat.add_zero] at c0 c1'
      rw [pc] at c1' x1
      have lr := (unhide q3).lt
      have h2r := unhide q6
      have hcc2 : ∀ i (hi : i < p.b.length), wr.cell? ⟨b2', o2 + i, none⟩ = some (u8v p.b[i]) := fun i hi => (World.cell?_of_block (a := ⟨b2', o2 + i, none⟩) (ag b2' hb2ge hb2lt)).trans (hcell2 i hi)
      have nb2 : b2' ≠ gD := by omega
      have hlen := syAt_length d.dry d.wet k (unhide hp)
      have b2r : b2' < wr.heap.size := by omega
      have hsy := syAt_succ (dry := d.dry) hpk
      clear hcc hcs x3 hcell2 ag
      replace hcc2 := hide hcc2; replace hpk := hide hpk; replace hpe := hide hpe; replace pc := hide pc; replace hlen := hide hlen; replace hsy := hide hsy
      go_upto_region 9 with fail
      have T1 := (unhide q1).alloc (.cells #[.int .i64 p.at_, .slice (some ⟨b2', o2, none⟩) 32 c2] 56)
      have T2 := (unhide q2).alloc (.cells #[.int .i64 p.at_, .slice (some ⟨b2', o2, none⟩) 32 c2] 56)
      have T3 := (unhide q3).alloc (.cells #[.int .i64 p.at_, .slice (some ⟨b2', o2, none⟩) 32 c2] 56)
      have T4 : Blk (wr.alloc (.cells #[.int .i64 p.at_, .slice (some ⟨b2', o2, none⟩) 32 c2] 56)) wr.heap.size 56 #[.int .i64 p.at_, .slice (some ⟨b2', o2, none⟩) 32 c2] := Blk.new rfl
      have T5 : Agree B H2 wa (wr.alloc (.cells #[.int .i64 p.at_, .slice (some ⟨b2', o2, none⟩) 32 c2] 56)) := fun k h1 h2 => (Below.heap_alloc wr _ k (by omega)).trans (unhide q5 k h1 h2)
      have T6 : H2 ≤ (wr.alloc (.cells #[.int .i64 p.at_, .slice (some ⟨b2', o2, none⟩) 32 c2] 56)).heap.size := by simp; omega
      have T7 : Below w.heap.size w (wr.alloc (.cells #[.int .i64 p.at_, .slice (some ⟨b2', o2, none⟩) 32 c2] 56)) := bl_alloc (unhide q4) _
      have hcc3 : ∀ i (hi : i < p.b.length), (wr.alloc (.cells #[.int .i64 p.at_, .slice (some ⟨b2', o2, none⟩) 32 c2] 56)).cell? ⟨b2', o2 + i, none⟩ = some (u8v p.b[i]) := fun i hi => (World.cell?_of_block (a := ⟨b2', o2 + i, none⟩) (Below.heap_alloc wr _ b2' b2r)).trans (unhide hcc2 i hi)
      have ngp : wr.heap.size ≠ gD := by omega
      generalize wr.alloc (.cells #[.int .i64 p.at_, .slice (some ⟨b2', o2, none⟩) 32 c2] 56) = wi at *
      generalize wr.heap.size = gp at *
      clear q1 q2 q3 q4 q5 q6 g0 g1 c0 c1' hcc2 lr h2r l1 l2 b2r hb1' hb2' hb2ge hb2lt
      have hlen' := unhide hlen
      have pc' := unhide pc
      obtain ⟨a32, ha32⟩ : ∃ a32, a32 = p.at_.toNat * 32 := ⟨_, rfl⟩
      have ha33 : a32 + 32 ≤ d.dry.length := by omega
      have i1 : IntKind.i64.wrap (32 * p.at_) = (a32 : Int) := (IntWalk.i64_in _ (by omega)).trans (by omega)
      have hs1 := fun W => dslice_l gD d.dry.length c3 a32 (by omega) (by omega) W
      have y1 : (p.b.map u8v).length = 32 * 1 := by simp [pc']
      have y2 : a32 + (p.b.map u8v).length ≤ ((syAt d.dry d.wet k).map u8v ++ S).length := by simp [hlen', pc']; omega
      have y3 := u8s_one p.b
      have y4 : (32 : Nat) = Nat.min 32 (d.dry.length - a32) := by show 32 = min _ _; omega
      have y5 : SrcOk wi (some ⟨b2', o2, none⟩) (p.b.map u8v).length (p.b.map u8v) := by
        intro _
        refine ⟨_, rfl, fun j u hu => ?_⟩
        rw [List.getElem?_map, Option.map_eq_some_iff] at hu
        obtain ⟨x, hx, rfl⟩ := hu
        obtain ⟨hi, rfl⟩ := List.getElem?_eq_some_iff.1 hx
        rw [addk]
        exact hcc3 j hi
      have s0 := T2.cell 0
      have s1 := T4.cell 0
      have s2 := T4.cell 1
      simp at s0 s1 s2
      have l0 := T2.lt; have lg := T4.lt; have lD := T1.lt
      clear hlen' pc'
      replace ha32 := hide ha32; replace y1 := hide y1; replace y2 := hide y2; replace y3 := hide y3; replace y4 := hide y4; replace y5 := hide y5
      replace T1 := hide T1; replace T2 := hide T2; replace T3 := hide T3; replace T4 := hide T4; replace T5 := hide T5; replace T6 := hide T6; replace T7 := hide T7; replace hcc3 := hide hcc3
      go_region_held3 (fun W => W.cell? ⟨w.heap.size, 0, none⟩ = some (.slice (some ⟨gD, 0, none⟩) d.dry.length c3) ∧ W.cell? ⟨gp, 0, none⟩ = some (.int .i64 p.at_) ∧ W.cell? ⟨gp, 1, none⟩ = some (.slice (some ⟨b2', o2, none⟩) 32 c2)) (first | exact ⟨by assumption, by assumption, by assumption⟩ | exact ⟨by go_simp, by go_simp, by go_simp⟩) (first
        | (refine step_copyN rfl (.tmp 32) (.tmp 34) 28 28 rfl 5 1 Tryd.underlying28 (by kernel_rfl) _ _ _ _ _ _ rfl rfl gD a32 ((syAt d.dry d.wet k).map u8v ++ S) 5 (Blk.drew (unhide T1)) (p.b.map u8v) 32 (unhide y4) (unhide y1) (fun _ => ⟨rfl, (show SrcOk wi.drew _ _ _ from unhide y5)⟩) (unhide y2) (unhide y3) ?_; intro w3 B3 O3
           have r0 := O3.cell (p := ⟨w.heap.size, 0, none⟩) nD0
           have r1 := O3.cell (p := ⟨gp, 0, none⟩) ngp
           have r2 := O3.cell (p := ⟨gp, 1, none⟩) ngp))
      clear i1 hs1 s0 s1 s2 r0 r1 r2
      go_wp2_with fail
      go_roundw
      case rel =>
        have R0 : Hid (Blk w3 gD 5 ((syAt d.dry d.wet (k + 1)).map u8v ++ S).toArray) := by
          rw [unhide hsy, splice_map, ← splice_app _ _ _ _ (by simp [unhide hlen, unhide pc]; omega), ← unhide ha32]
          exact B3
        have O : Only gD wi w3 := ⟨O3.os, O3.tape, O3.output, O3.size, O3.block⟩
        exact ⟨k + 1, by omega, by go_num, R0, hide ((unhide T2).only O nD0), hide ((unhide T3).only O nD1), hide (fun x h1 h2 => (O.block x (by omega)).trans (unhide T5 x h1 h2)), hide (by rw [O.size]; exact unhide T6), hide ((unhide T7).trans (O.below wD))⟩
      case measure => simp [intOf]; omega
    · obtain rfl : k = n := by omega
      have g2 := (unhide q2).cell 2
      have f0 := (unhide q2).frozen 0; have f1 := (unhide q2).frozen 1; have f2 := (unhide q2).frozen 2
      have r0 := (unhide q3).cell 0; have r1 := (unhide q3).cell 1; have r2 := (unhide q3).cell 2
      have e0 := (unhide q3).frozen 0; have e1 := (unhide q3).frozen 1; have e2 := (unhide q3).frozen 2
      simp at g2 r0 r1 r2
      have l3 := (unhide q3).lt
      go_wp2_with fail
      have Kr2 := (unhide q3).far (p := ⟨w.heap.size, 1, none⟩) (by simp) (.slice none 0 0)
      refine ret_disk2 rfl (w.heap.size + 1) #[.slice (some ⟨gD, 0, none⟩) d.dry.length c3, .slice none 0 0, .int .i64 X] rfl (.int .i64 0) rfl rfl Kr2.set3 rfl ⟨_, rfl, ?_, ?_⟩
      · have G := ((((unhide q1).far (p := ⟨w.heap.size, 1, none⟩) (Ne.symm nD0) (.slice none 0 0)).far (p := ⟨w.heap.size + 1, 0, none⟩) (Ne.symm nD1) (.slice (some ⟨gD, 0, none⟩) d.dry.length c3)).far (p := ⟨w.heap.size + 1, 1, none⟩) (Ne.symm nD1) (.slice none 0 0)).far (p := ⟨w.heap.size + 1, 2, none⟩) (Ne.symm nD1) (.int .i64 X)
        have hlen := syAt_length d.dry d.wet k (unhide hp)
        refine ⟨_, _, rfl, ⟨_, c3, by rw [hlen], by simp only [hlen]; exact hncD, hcap, fun _ => ⟨gD, 0, rfl, wD, G.lt, fun i hi => ?_⟩⟩, ⟨none, 0, rfl, by simp, by omega, fun h0 => by simp at h0, fun b off e => by cases e⟩⟩
        rw [Nat.zero_add, G.cell]
        simp only [List.getElem?_toArray]
        rw [List.getElem?_append_left (by simpa using hi), List.getElem?_map, List.getElem?_eq_getElem hi]
        rfl
      · exact ((((unhide q4).setCell (Nat.le_refl _) _).setCell (by simp) _).setCell (by simp) _).setCell (by simp) _

theorem refsync_any (lo : Nat) (v : Value) (d : Dk) (w : World) (h : Dsk lo w.heap.size w v d) (hL : d.dry.length ≤ 1000000) (hW : d.wet.length ≤ 1000) :
    Calls Tryd.prog 40 #[v] w fun e w' => ∃ v' E, e = .returned (.tuple #[v', .int .i64 E]) ∧ Dsk w.heap.size w'.heap.size w' v' (synD d).1 ∧ E = (synD d).2 ∧ Below w.heap.size w w' := by
  cases hq : okD d
  · refine (refsync_bad lo v d w h hq).mono ?_
    rintro e w' ⟨rfl, hb'⟩
    have : synD d = (noDk, 1) := by simp [synD, hq]
    exact ⟨_, _, rfl, by rw [this]; exact noDk_dsk _ _ _, by rw [this], hb'⟩
  · by_cases h0 : d.left = 0
    · refine (refsync_dead lo v d w h hq h0).mono ?_
      rintro e w' ⟨rfl, hb'⟩
      have : synD d = (noDk, 11) := by simp [synD, hq, h0]
      exact ⟨_, _, rfl, by rw [this]; exact noDk_dsk _ _ _, by rw [this], hb'⟩
    · refine (refsync_good lo v d w h hq h0 hL hW).mono ?_
      rintro e w' ⟨v', rfl, hd, hb'⟩
      have : synD d = (⟨syAt d.dry d.wet d.wet.length, [], less d.left⟩, 0) := by simp [synD, hq, h0]
      exact ⟨_, _, rfl, by rw [this]; exact hd, by rw [this], hb'⟩
end Go.Proofs.YtommlgdolahfbaaDoor
