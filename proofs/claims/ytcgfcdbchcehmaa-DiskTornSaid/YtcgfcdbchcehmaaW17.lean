import Derived.Test.YtcgfcdbchcehmaaW16
namespace Go.Proofs.Ytcgfcdbchcehmaa
open Go.RowKit

theorem Bs.open32 {lo hi : Nat} {w : World} {v : Value} {l : List UInt8} (h : Bs lo hi w v l) (hl : l.length = 32) : ∃ b o c, v = .slice (some ⟨b, o, none⟩) 32 c ∧ 32 ≤ c ∧ c ≤ 9223372036854775807 := by
  obtain ⟨A, c, rfl, h1, h2, h3⟩ := h
  obtain ⟨b, o, rfl, _⟩ := h3 (by omega)
  exact ⟨b, o, c, by rw [hl], by omega, h2⟩

theorem Bs.sub4 {lo hi : Nat} {w : World} {b o c K : Nat} {l : List UInt8} (h : Bs lo hi w (.slice (some ⟨b, o, none⟩) 32 c) l) (hK : K < 8) (hl : l.length = 32) : Bs lo hi w (.slice (some ⟨b, o + 4 * K, none⟩) 4 (c - 4 * K)) ((l.drop (4 * K)).take 4) := by
  obtain ⟨A, c', e, h1, h2, h3⟩ := h
  injection e with e1 e2 e3
  subst e1 e3
  obtain ⟨b', o', e4, hb, hb', hc⟩ := h3 (by omega)
  injection e4 with e4
  injection e4 with e4 e5
  subst e4 e5
  have hlen : ((l.drop (4 * K)).take 4).length = 4 := by rw [List.length_take, List.length_drop]; omega
  refine ⟨_, c - 4 * K, by rw [hlen], by omega, by omega, fun _ => ⟨b, o + 4 * K, rfl, hb, hb', fun i hi => ?_⟩⟩
  rw [hlen] at hi
  rw [List.getElem_take, List.getElem_drop, Nat.add_assoc]
  exact hc _ _

theorem rep_map (n : Nat) : (List.replicate n (255 : UInt8)).map u8v = List.replicate n (.int .u8 255) := by simp [u8v]

set_option maxRecDepth 100000 in
set_option maxHeartbeats 8000000 in
theorem torn_sec (A A' A3 : Option Addr) (c c' c3 : Nat) (d : Dk) (ms : List UInt8) (at_ k : Int) (w : World)
    (h : Dsk 0 w.heap.size w (.agg #[.slice A d.dry.length c, .slice A' d.wet.length c', .int .i64 d.left]) d) (hm : Bs 0 w.heap.size w (.slice A3 ms.length c3) ms)
    (hf : fewB d = true) (hl : ms.length ≤ 300) (k0 : 0 ≤ k) (k7 : k ≤ 7) (hok : okD d = true) (hh : hasB d.dry.length at_ = true) :
    Calls Try.prog 6 #[.agg #[.slice A d.dry.length c, .slice A' d.wet.length c', .int .i64 d.left], .slice A3 ms.length c3, .int .i64 at_, .int .i64 k] w fun e w' => e = .returned (.bool true) ∧ Below w.heap.size w w' := by
  obtain ⟨fl, fw⟩ := few_parts hf
  have hfw : ∀ W, Below w.heap.size w W → Calls Try.prog 10 #[.agg #[.slice A d.dry.length c, .slice A' d.wet.length c', .int .i64 d.left]] W fun e w' => e = .returned (.bool true) ∧ Below W.heap.size W w' :=
    fun W hB => by have := few_any 0 _ d W ((h.below hB (Nat.le_refl _)).mono (Nat.le_refl _) hB.size); rwa [hf] at this
  have hcr : ∀ W, Below w.heap.size w W → Calls Try.prog 27 #[.agg #[.slice A d.dry.length c, .slice A' d.wet.length c', .int .i64 d.left], .slice A3 ms.length c3] W fun e w' => ∃ v' E, e = .returned (.tuple #[v', .int .i64 E]) ∧ Dsk W.heap.size w'.heap.size w' v' (crD d ms).1 ∧ E = (crD d ms).2 ∧ Below W.heap.size W w' :=
    fun W hB => crash_any 0 _ _ d ms W ((h.below hB (Nat.le_refl _)).mono (Nat.le_refl _) hB.size) ((hm.below hB (Nat.le_refl _)).mono (Nat.le_refl _) hB.size) fl fw
  have hdn : Dsk 0 w.heap.size w (.agg #[.slice A d.dry.length c, .slice none 0 0, .int .i64 (-1)]) ⟨d.dry, [], -1⟩ := by
    obtain ⟨a, b, e0, h1, _⟩ := h
    injection e0 with e0
    injection e0 with e0
    injection e0 with e0 _
    subst e0
    exact ⟨_, _, rfl, h1, ⟨none, 0, rfl, by simp, by omega, fun h0 => by simp at h0, fun b off e => by cases e⟩⟩
  have hrd : ∀ W, Below w.heap.size w W → Calls Try.prog 14 #[.agg #[.slice A d.dry.length c, .slice A' d.wet.length c', .int .i64 d.left], .int .i64 at_] W fun e w' => ∃ v' E, e = .returned (.tuple #[v', .int .i64 E]) ∧ Bs W.heap.size w'.heap.size w' v' (rdD d at_).1 ∧ E = (rdD d at_).2 ∧ Below W.heap.size W w' :=
    fun W hB => read_any 0 _ d at_ W ((h.below hB (Nat.le_refl _)).mono (Nat.le_refl _) hB.size) fl fw
  have hrn : ∀ W, Below w.heap.size w W → Calls Try.prog 14 #[.agg #[.slice A d.dry.length c, .slice none 0 0, .int .i64 (-1)], .int .i64 at_] W fun e w' => ∃ v' E, e = .returned (.tuple #[v', .int .i64 E]) ∧ Bs W.heap.size w'.heap.size w' v' (rdD ⟨d.dry, [], -1⟩ at_).1 ∧ E = (rdD ⟨d.dry, [], -1⟩ at_).2 ∧ Below W.heap.size W w' :=
    fun W hB => read_any 0 _ ⟨d.dry, [], -1⟩ at_ W ((hdn.below hB (Nat.le_refl _)).mono (Nat.le_refl _) hB.size) fl (by simp)
  have hE : (crD d ms).2 = 0 := by simp [crD, hok]
  have hD : (crD d ms).1 = ⟨crAt d.dry d.wet ms (min d.wet.length ms.length), [], -1⟩ := by simp [crD, hok]
  have hlen := crAt_length d.dry d.wet ms (min d.wet.length ms.length) (okD_ok hok).2
  have flc : (crD d ms).1.dry.length ≤ 1000000 := by rw [hD]; simp only [hlen]; exact fl
  have fwc : (crD d ms).1.wet.length ≤ 1000 := by rw [hD]; simp
  have hokc : okD (crD d ms).1 = true := by rw [hD]; exact ok_bare hok _ hlen
  have hokn : okD ⟨d.dry, [], -1⟩ = true := ok_bare hok _ rfl
  have hhc : hasB (crD d ms).1.dry.length at_ = hasB d.dry.length at_ := by rw [hD]; simp only [hlen]
  have hl' : ¬ (300 : Int) < (ms.length : Int) := by omega
  have hEr : (rdD d at_).2 = 0 := by simp [rdD, hok, hh]
  have hEc : (rdD (crD d ms).1 at_).2 = 0 := by simp [rdD, hokc, hhc, hh]
  have hEn : (rdD ⟨d.dry, [], -1⟩ at_).2 = 0 := by simp [rdD, hokn, hh]
  have hR4 : (rdD d at_).1 = sectorOf d at_ := by simp [rdD, hok, hh]
  have hR5 : (rdD (crD d ms).1 at_).1 = sectorOf (crD d ms).1 at_ := by simp [rdD, hokc, hhc, hh]
  have hR6 : (rdD ⟨d.dry, [], -1⟩ at_).1 = sectorOf ⟨d.dry, [], -1⟩ at_ := by simp [rdD, hokn, hh]
  obtain ⟨a0, a1⟩ : 0 ≤ at_ ∧ at_ < ((d.dry.length / 32 : Nat) : Int) := by simpa [hasB] using hh
  have hL6 : (sectorOf ⟨d.dry, [], -1⟩ at_).length = 32 := by rw [sector_bare, List.length_take, List.length_drop]; omega
  have hL5 : (sectorOf (crD d ms).1 at_).length = 32 := by rw [hD, sector_bare, List.length_take, List.length_drop, hlen]; omega
  have hL4 : (sectorOf d at_).length = 32 := by
    rw [← crash_all hok at_ a0 a1 _ rfl, sector_bare, List.length_take, List.length_drop, crAt_length _ _ _ _ (okD_ok hok).2]; omega
  obtain ⟨K, rfl⟩ := Int.eq_ofNat_of_zero_le k0
  have hgr := crash_group hok ms at_ a0 K (by omega) _ rfl
  rw [← hD] at hgr
  obtain ⟨G4, hG4⟩ : ∃ G, G = ((sectorOf d at_).drop (4 * K)).take 4 := ⟨_, rfl⟩
  obtain ⟨G5, hG5⟩ : ∃ G, G = ((sectorOf (crD d ms).1 at_).drop (4 * K)).take 4 := ⟨_, rfl⟩
  obtain ⟨G6, hG6⟩ : ∃ G, G = ((sectorOf ⟨d.dry, [], -1⟩ at_).drop (4 * K)).take 4 := ⟨_, rfl⟩
  rw [← hG4, ← hG5, ← hG6] at hgr
  replace hG4 := hide hG4; replace hG5 := hide hG5; replace hG6 := hide hG6
  have hk8 : K < 8 := by omega
  obtain ⟨all, hall⟩ : ∃ l, l = List.replicate d.wet.length (255 : UInt8) := ⟨_, rfl⟩
  have hca : ∀ W mv, Below w.heap.size w W → Bs 0 W.heap.size W mv all → Calls Try.prog 27 #[.agg #[.slice A d.dry.length c, .slice A' d.wet.length c', .int .i64 d.left], mv] W fun e w' => ∃ v' E, e = .returned (.tuple #[v', .int .i64 E]) ∧ Dsk W.heap.size w'.heap.size w' v' (crD d all).1 ∧ E = (crD d all).2 ∧ Below W.heap.size W w' :=
    fun W mv hB hmv => crash_any 0 _ mv d all W ((h.below hB (Nat.le_refl _)).mono (Nat.le_refl _) hB.size) hmv fl fw
  have hEa : (crD d all).2 = 0 := by simp [crD, hok]
  have hDa : (crD d all).1 = ⟨crAt d.dry d.wet all (min d.wet.length all.length), [], -1⟩ := by simp [crD, hok]
  have hlena := crAt_length d.dry d.wet all (min d.wet.length all.length) (okD_ok hok).2
  have hoka : okD (crD d all).1 = true := by rw [hDa]; exact ok_bare hok _ hlena
  have hha : hasB (crD d all).1.dry.length at_ = true := by rw [hDa]; simp only [hlena]; exact hh
  have hRa : rdD (crD d all).1 at_ = (sectorOf d at_, 0) := by
    have : sectorOf (crD d all).1 at_ = sectorOf d at_ := by rw [hDa]; exact crash_all hok at_ a0 a1 _ (by rw [hall])
    simp [rdD, hoka, hha, this]
  have fla : (crD d all).1.dry.length ≤ 1000000 := by rw [hDa]; simp only [hlena]; exact fl
  have fwa : (crD d all).1.wet.length ≤ 1000 := by rw [hDa]; simp
  replace hall := hide hall; replace hca := hide hca; replace hEa := hide hEa; replace hDa := hide hDa; replace hlena := hide hlena; replace hRa := hide hRa; replace fla := hide fla; replace fwa := hide fwa
  obtain ⟨i0, hi0, hz0, hz1, hz2⟩ := info_parts info5b
  have m1 : (0 : Int) ≤ 4 * (K : Int) := by omega
  have hwl : d.wet.length ≤ 1000 := fw
  replace hfw := hide hfw; replace hcr := hide hcr; replace hrd := hide hrd; replace hrn := hide hrn; replace hE := hide hE; replace hD := hide hD; replace hlen := hide hlen; replace flc := hide flc; replace fwc := hide fwc; replace hEr := hide hEr; replace hEc := hide hEc; replace hEn := hide hEn; replace hR4 := hide hR4; replace hR5 := hide hR5; replace hR6 := hide hR6; replace hL4 := hide hL4; replace hL5 := hide hL5; replace hL6 := hide hL6; replace hgr := hide hgr
  clear h hm hf hok fl fw hdn hokc hokn hhc hh hoka hha k0
  go_enter Try.func6, Try.ntmps6
  go_wp2_with (first
    | (go_at_call 9; refine (live_any _).mono ?_; rintro e w1 ⟨rfl, hb1⟩; have HB1 : Below w.heap.size w w1 := bl_call (by (repeat (first | with_reducible exact Below.refl _ _ | with_reducible assumption | with_reducible refine Below.drew ?_ | with_reducible refine bl_alloc ?_ _ | with_reducible refine bl_call ?_ (by assumption) | (focus (with_reducible refine Below.setCell ?_ ?_ _; rotate_left; focus (first | omega | (simp <;> omega)))) | fail))) hb1
       have kb := hide (Blk.below (g := w.heap.size) (t := 25) (cs := #[.slice A d.dry.length c, .slice A' d.wet.length c', .int .i64 d.left]) (Blk.new rfl) hb1 (by simp)); (obtain ⟨hc1, hf1⟩ := bcell hb1; have hz1 := hb1.size; (try have y0 : w.heap.size < w1.heap.size := (by (simp at hz1; omega))); (try have y1 : w.heap.size + 1 < w1.heap.size := (by (simp at hz1; omega))); (try have y2 : w.heap.size + 2 < w1.heap.size := (by (simp at hz1; omega))); (try have y3 : w.heap.size + 3 < w1.heap.size := (by (simp at hz1; omega))); clear hz1))
    | (go_at_call 10; refine (unhide hfw _ HB1).mono ?_; rintro e w2 ⟨rfl, hb2⟩; have HB2 : Below w.heap.size w w2 := bl_call HB1 hb2
       replace kb := hide ((unhide kb).below hb2 y0)
       have y2 : w.heap.size < w2.heap.size := (unhide kb).lt
       have t0 : w2.cell? ⟨w.heap.size, 0, none⟩ = some (.slice A d.dry.length c) := ((unhide kb).cell 0).trans rfl
       have t1 : w2.cell? ⟨w.heap.size, 1, none⟩ = some (.slice A' d.wet.length c') := ((unhide kb).cell 1).trans rfl
       have t2 : w2.cell? ⟨w.heap.size, 2, none⟩ = some (.int .i64 d.left) := ((unhide kb).cell 2).trans rfl)
    | (go_at_call 27; refine (unhide hcr _ HB2).mono ?_; rintro e w3 ⟨v3, E, rfl, hd3, hE3, hb3⟩; have HB3 : Below w.heap.size w w3 := bl_call HB2 hb3
       obtain ⟨Ax, cx, Ay, cy, rfl⟩ := hd3.form
       obtain rfl : E = 0 := hE3.trans (unhide hE)
       clear hE3
       replace kb := hide ((unhide kb).below hb3 y2)
       have y3 : w.heap.size < w3.heap.size := (unhide kb).lt
       have s0 : w3.cell? ⟨w.heap.size, 0, none⟩ = some (.slice A d.dry.length c) := ((unhide kb).cell 0).trans rfl
       have s1 : w3.cell? ⟨w.heap.size, 1, none⟩ = some (.slice A' d.wet.length c') := ((unhide kb).cell 1).trans rfl
       have s2 : w3.cell? ⟨w.heap.size, 2, none⟩ = some (.int .i64 d.left) := ((unhide kb).cell 2).trans rfl
       replace hd3 := hide hd3
       have tok1 : True := trivial)
    | (go_at_call 14; have _t := tok1; refine (unhide hrd _ (by (repeat (first | with_reducible exact Below.refl _ _ | with_reducible assumption | with_reducible refine Below.drew ?_ | with_reducible refine bl_alloc ?_ _ | with_reducible refine bl_call ?_ (by assumption) | (focus (with_reducible refine Below.setCell ?_ ?_ _; rotate_left; focus (first | omega | (simp <;> omega)))) | fail)))).mono ?_; rintro e w4 ⟨v4, E, rfl, hx4, hE4, hb4⟩; clear tok1 _t
       obtain rfl : E = 0 := hE4.trans (unhide hEr)
       clear hE4
       have HB4 : Below w.heap.size w w4 := bl_call (bl_alloc HB3 _) hb4
       have kc := hide (Blk.below (Blk.new (w := w3) (cs := #[.slice Ax (crD d ms).1.dry.length cx, .slice Ay (crD d ms).1.wet.length cy, .int .i64 (crD d ms).1.left]) (t := 25) rfl) hb4 (by simp))
       replace kb := hide (Blk.below ((unhide kb).alloc _) hb4 (by simp; omega))
       have y4 : w.heap.size < w4.heap.size := (unhide kb).lt
       have y4' : w3.heap.size < w4.heap.size := (unhide kc).lt
       have u0 : w4.cell? ⟨w3.heap.size, 0, none⟩ = some (.slice Ax (crD d ms).1.dry.length cx) := ((unhide kc).cell 0).trans rfl
       have u1 : w4.cell? ⟨w3.heap.size, 1, none⟩ = some (.slice Ay (crD d ms).1.wet.length cy) := ((unhide kc).cell 1).trans rfl
       have u2 : w4.cell? ⟨w3.heap.size, 2, none⟩ = some (.int .i64 (crD d ms).1.left) := ((unhide kc).cell 2).trans rfl
       have hrc := hide (read_any 0 _ (crD d ms).1 at_ w4 (((unhide hd3).below (bl_call (bl_alloc (Below.refl _ _) _) hb4) (Nat.le_refl _)).mono (Nat.zero_le _) (Nat.le_of_lt y4')) (unhide flc) (unhide fwc))
       rw [unhide hR4] at hx4
       obtain ⟨b4, o4, q4, rfl, hc4⟩ := hx4.open32 (unhide hL4)
       replace hx4 := hide hx4
       have tok2 : True := trivial)
    | (go_at_call 14; have _t := tok2; refine (unhide hrc).mono ?_; rintro e w5 ⟨v5, E, rfl, hx5, hE5, hb5⟩; clear tok2 _t
       obtain rfl : E = 0 := hE5.trans (unhide hEc)
       clear hE5
       have HB5 : Below w.heap.size w w5 := bl_call HB4 hb5
       replace kb := hide ((unhide kb).below hb5 y4)
       have y5 : w.heap.size < w5.heap.size := (unhide kb).lt
       have x0 : w5.cell? ⟨w.heap.size, 0, none⟩ = some (.slice A d.dry.length c) := ((unhide kb).cell 0).trans rfl
       have x1 : w5.cell? ⟨w.heap.size, 1, none⟩ = some (.slice A' d.wet.length c') := ((unhide kb).cell 1).trans rfl
       have x2 : w5.cell? ⟨w.heap.size, 2, none⟩ = some (.int .i64 d.left) := ((unhide kb).cell 2).trans rfl
       rw [unhide hR5] at hx5
       obtain ⟨b5, o5, q5, rfl, hc5⟩ := hx5.open32 (unhide hL5)
       replace hx5 := hide hx5
       have tok3 : True := trivial)
    | (go_at_call 14; have _t := tok3; refine (unhide hrn _ (by (repeat (first | with_reducible exact Below.refl _ _ | with_reducible assumption | with_reducible refine Below.drew ?_ | with_reducible refine bl_alloc ?_ _ | with_reducible refine bl_call ?_ (by assumption) | (focus (with_reducible refine Below.setCell ?_ ?_ _; rotate_left; focus (first | omega | (simp <;> omega)))) | fail)))).mono ?_; rintro e w6 ⟨v6, E, rfl, hx6, hE6, hb6⟩; clear tok3 _t
       obtain rfl : E = 0 := hE6.trans (unhide hEn)
       clear hE6
       have HB6 : Below w.heap.size w w6 := bl_call (by (repeat (first | with_reducible exact Below.refl _ _ | with_reducible assumption | with_reducible refine Below.drew ?_ | with_reducible refine bl_alloc ?_ _ | with_reducible refine bl_call ?_ (by assumption) | (focus (with_reducible refine Below.setCell ?_ ?_ _; rotate_left; focus (first | omega | (simp <;> omega)))) | fail))) hb6
       rw [unhide hR6] at hx6
       obtain ⟨b6, o6, q6, rfl, hc6⟩ := hx6.open32 (unhide hL6)
       have cv5 := (Bs.sub4 ((unhide hx5).below (bl_call (by (repeat (first | with_reducible exact Below.refl _ _ | with_reducible assumption | with_reducible refine Below.drew ?_ | with_reducible refine bl_alloc ?_ _ | with_reducible refine bl_call ?_ (by assumption) | (focus (with_reducible refine Below.setCell ?_ ?_ _; rotate_left; focus (first | omega | (simp <;> omega)))) | fail))) hb6) (Nat.le_refl _)) hk8 (unhide hL5)).convert
       have cv6 := (Bs.sub4 hx6 hk8 (unhide hL6)).convert
       have B46 : Below w4.heap.size w4 w6 := bl_call (bl_alloc hb5 _) hb6
       have cv4 := (Bs.sub4 ((unhide hx4).below B46 (Nat.le_refl _)) hk8 (unhide hL4)).convert
       rw [← unhide hG4] at cv4
       rw [← unhide hG5] at cv5
       rw [← unhide hG6] at cv6
       replace kb := hide (Blk.below ((unhide kb).alloc _) hb6 (by simp; omega))
       have y6 : w.heap.size < w6.heap.size := (unhide kb).lt
       have n4 : q4 ≠ 4 * K := by omega
       have n5 : q5 ≠ 4 * K := by omega
       have n6 : q6 ≠ 4 * K := by omega
       have z1 : w6.cell? ⟨w.heap.size, 1, none⟩ = some (.slice A' d.wet.length c') := ((unhide kb).cell 1).trans rfl
       replace hx6 := hide hx6
       have hg3 : G5 = G6 ∨ (G5 = G4 ∧ ((strU G5).toList == (strU G6).toList) = false ∧ ((strU G5).toList != (strU G6).toList) = true) := (by
         by_cases e8 : G5 = G6
         · exact .inl e8
         · rcases unhide hgr with e9 | e9
           · exact .inl e9
           · refine .inr ⟨e9, ?_, ?_⟩
             · rw [strU_toList, strU_toList]; simpa using e8
             · rw [strU_toList, strU_toList]; simpa using e8)
       rcases hg3 with e9 | ⟨e9, e10, e11⟩
       all_goals subst e9)
    | fail)
  all_goals
    (try simp only [Nat.add_sub_cancel_left])
    go_loopw [20, 147] (fun a i wr => ∃ (n : Nat) (Aa : Option Addr) (ca : Nat), n ≤ d.wet.length ∧ i = .int .i64 n ∧ a = .slice Aa n ca ∧ Hid (wr.ownsRow w6.heap.size 5 1 (.slice Aa n ca) n (List.replicate n (.int .u8 255))) ∧ Hid (Below w6.heap.size w6 wr)) (fun _ i _ => d.wet.length - (intOf i).toNat)
    case atStart => exact ⟨0, none, 0, Nat.zero_le _, rfl, rfl, World.ownsRow_nil _ _ _ _, Below.refl _ _⟩
    case round =>
      obtain ⟨n, Aa, ca, hn, rfl, rfl, o1, o2⟩ := hrel
      by_cases hlt : n < d.wet.length
      · have p1 := (unhide o1).alloc (.cells #[.int .u8 255] 5)
        have p2 : SrcOk (wr.alloc (.cells #[.int .u8 255] 5)) (some ⟨wr.heap.size, 0, none⟩) 1 [.int .u8 255] := SrcOk.blk (cur := [.int .u8 255]) (Blk.new rfl) (fun j u h => by simpa using h)
        have p3 : ∀ u ∈ [Value.int .u8 255], u.oneCell' = true := by simp [Value.oneCell']
        have p4 : n + 1 ≤ maxLen := by simp [maxLen]; omega
        have p5 : (n + 1) * 1 ≤ 140737488355328 := by omega
        have p6 : w6.heap.size ≤ (wr.alloc (.cells #[.int .u8 255] 5)).heap.size := by have := (unhide o2).size; simp; omega
        replace p1 := hide p1; replace p2 := hide p2; replace p3 := hide p3; replace p4 := hide p4; replace p5 := hide p5; replace p6 := hide p6
        go_wp2_with (first
          | (at_builtin
             refine wpList_app _ rfl (.tmp 149) (.tmp 150) 22 rfl w6.heap.size 5 i0 _ 1 1 Try.underlying22 hi0 hz0 hz1 hz2 rfl (Nat.succ_pos _) _ n _ rfl (unhide p1) _ 1 1 [.int .u8 255] rfl rfl (unhide p2) (unhide p3) (unhide p4) (unhide p5) (unhide p6) ?_
             intro v' w8 ho8 hg8
             obtain ⟨A8, c8, rfl⟩ : ∃ A8 c8, v' = .slice A8 (n + 1) c8 := (by
               rcases ho8.2 with ⟨_, h0⟩ | ⟨g, cap, cur, e, _⟩
               · omega
               · exact ⟨_, _, e⟩)
             have hB8 : Below w6.heap.size w6 w8 := bl_grown (bl_alloc (unhide o2) _) hg8 (fun k hk => ((unhide p1).lt k hk).1)
             replace ho8 := hide ho8; replace hB8 := hide hB8; clear hg8)
          | fail)
        go_roundw
        case rel =>
          have R8 : Hid (w8.ownsRow w6.heap.size 5 1 (.slice A8 (n + 1) c8) (n + 1) (List.replicate (n + 1) (.int .u8 255))) := hide (by have := unhide ho8; rwa [show List.replicate n (Value.int .u8 255) ++ [Value.int .u8 255] = List.replicate (n + 1) (.int .u8 255) from List.replicate_succ'.symm] at this)
          first
            | exact ⟨n + 1, A8, c8, by omega, by go_num, rfl, R8, hB8⟩
            | ((repeat apply Exists.intro); exact ⟨⟨n + 1, A8, c8, by omega, by go_num, rfl, R8, hB8⟩, rfl⟩)
        case measure => simp [intOf]; omega
      · obtain rfl : n = d.wet.length := by omega
        have hba : Bs 0 wr.heap.size wr (.slice Aa d.wet.length ca) all := by
          have := unhide o1
          rw [← rep_map] at this
          have e : (List.replicate d.wet.length (255 : UInt8)).length = d.wet.length := List.length_replicate
          have h2 := Bs.of_own (l := List.replicate d.wet.length (255 : UInt8)) (by rw [e]; exact this)
          rw [← unhide hall] at h2
          exact h2.mono (Nat.zero_le _) (Nat.le_refl _)
        have kw := hide ((unhide kb).below (unhide o2) y6)
        have HBw : Below w.heap.size w wr := bl_call HB6 (unhide o2)
        have r0 : wr.cell? ⟨w.heap.size, 0, none⟩ = some (.slice A d.dry.length c) := ((unhide kw).cell 0).trans rfl
        have r1 : wr.cell? ⟨w.heap.size, 1, none⟩ = some (.slice A' d.wet.length c') := ((unhide kw).cell 1).trans rfl
        have r2 : wr.cell? ⟨w.heap.size, 2, none⟩ = some (.int .i64 d.left) := ((unhide kw).cell 2).trans rfl
        have hcc := hide (unhide hca wr _ HBw hba)
        clear hlt hba
        go_wp2_with (first
          | (go_at_call 27; refine (unhide hcc).mono ?_; rintro e w9 ⟨v9, E, rfl, hd9, hE9, hb9⟩
             obtain ⟨A9, c9, A9', c9', rfl⟩ := hd9.form
             obtain rfl : E = 0 := hE9.trans (unhide hEa)
             clear hE9
             have hr9 := hide (fun W (hB : Below w9.heap.size w9 W) => read_any 0 _ (crD d all).1 at_ W ((hd9.below hB (Nat.le_refl _)).mono (Nat.zero_le _) hB.size) (unhide fla) (unhide fwa))
             have HB9 : Below w.heap.size w w9 := bl_call HBw hb9
             clear hd9)
          | (go_at_call 14; refine (unhide hr9 _ (by (repeat (first | with_reducible exact Below.refl _ _ | with_reducible assumption | with_reducible refine Below.drew ?_ | with_reducible refine bl_alloc ?_ _ | with_reducible refine bl_call ?_ (by assumption) | (focus (with_reducible refine Below.setCell ?_ ?_ _; rotate_left; focus (first | omega | (simp <;> omega)))) | fail)))).mono ?_; rintro e w10 ⟨v10, E, rfl, hx10, hE10, hb10⟩
             rw [unhide hRa] at hx10 hE10
             obtain rfl : E = 0 := hE10
             have B4 : Below w4.heap.size w4 w10 := bl_call (bl_alloc (bl_call (bl_call B46 (unhide o2)) hb9) _) hb10
             have hsm := hide (sameb_any _ _ _ _ _ _ _ _ w10 hx10 ((unhide hx4).below B4 (Nat.le_refl _)))
             have HB10 : Below w.heap.size w w10 := bl_call (bl_alloc HB9 _) hb10)
          | (go_at_call 23; refine (unhide hsm).mono ?_; rintro e w11 ⟨rfl, rfl⟩)
          | fail)
        go_ret
        exact ⟨rfl, HB10⟩

end Go.Proofs.Ytcgfcdbchcehmaa
