import Derived.Test.YtommlgdolahfbaaDoorW7
import Derived.Test.YtommlgdolahfbaaDoorW8
namespace Go.Proofs.YtommlgdolahfbaaDoor
set_option maxRecDepth 100000
open Go.RowKit

set_option maxHeartbeats 1000000 in
theorem crash_bad (lo : Nat) (v : Value) (d : Dk) (mv : Value) (w : World) (h : Dsk lo w.heap.size w v d) (hq : okD d = false) :
    Calls Tryd.prog 24 #[v, mv] w fun e w' => e = .returned (.tuple #[.agg #[.slice none 0 0, .slice none 0 0, .int .i64 0], .int .i64 1]) ∧ Below w.heap.size w w' := by
  have hck : ∀ W, Below w.heap.size w W → Calls Tryd.prog 44 #[v] W fun e w' => e = .returned (.int .i64 (badE false)) ∧ Below W.heap.size W w' :=
    fun W hB => by have := check_any lo v d W ((h.below hB (Nat.le_refl _)).mono (Nat.le_refl _) hB.size); rwa [hq] at this
  obtain ⟨A, c, A', c', rfl⟩ := h.form
  replace hck := hide hck; replace hq := hide hq; replace h := hide h
  have b1 : (badE false != 0) = true := rfl
  go_enter Tryd.func24, Tryd.ntmps24
  go_wp2_with (first
    | (go_at_call 44; refine (unhide hck _ (by (repeat (first | with_reducible exact Below.refl _ _ | with_reducible assumption | with_reducible refine Below.drew ?_ | with_reducible refine bl_alloc ?_ _ | with_reducible refine bl_call ?_ (by assumption) | (focus (with_reducible refine Below.setCell ?_ ?_ _; rotate_left; focus (first | omega | (simp <;> omega)))) | fail)))).mono ?_; rintro e w1 ⟨rfl, hb1⟩; have HB1 : Below w.heap.size w w1 := bl_call (by (repeat (first | with_reducible exact Below.refl _ _ | with_reducible assumption | with_reducible refine Below.drew ?_ | with_reducible refine bl_alloc ?_ _ | with_reducible refine bl_call ?_ (by assumption) | (focus (with_reducible refine Below.setCell ?_ ?_ _; rotate_left; focus (first | omega | (simp <;> omega)))) | fail))) hb1; have hk := hide (Blk.below (g := w.heap.size + 1) (t := 31) (cs := #[.slice none 0 0, .slice none 0 0, .int .i64 0]) (Blk.new (by simp)) hb1 (by simp)); (obtain ⟨hc1, hf1⟩ := bcell hb1; have hz1 := hb1.size; (try have y0 : w.heap.size < w1.heap.size := (by (simp at hz1; omega))); (try have y1 : w.heap.size + 1 < w1.heap.size := (by (simp at hz1; omega))); (try have y2 : w.heap.size + 2 < w1.heap.size := (by (simp at hz1; omega))); (try have y3 : w.heap.size + 3 < w1.heap.size := (by (simp at hz1; omega))); clear hz1))
    | fail)
  refine ret_disk2 rfl (w.heap.size + 1) #[.slice none 0 0, .slice none 0 0, .int .i64 0] rfl (.int .i64 1) rfl rfl (unhide hk).set3 rfl ⟨rfl, ?_⟩
  (repeat (first | with_reducible exact Below.refl _ _ | with_reducible assumption | with_reducible refine Below.drew ?_ | with_reducible refine bl_alloc ?_ _ | with_reducible refine bl_call ?_ (by assumption) | (focus (with_reducible refine Below.setCell ?_ ?_ _; rotate_left; focus (first | omega | (simp <;> omega)))) | fail))

theorem sector_int (b off n c : Nat) (a : Int) (w : World) (ha : 0 ≤ a) (hk : (a.toNat + 1) * 32 ≤ c) (hc : c ≤ 9223372036854775807) :
    Calls Tryd.prog 54 #[.slice (some ⟨b, off, none⟩) n c, .int .i64 a] w fun e w' => e = .returned (.slice (some ⟨b, off + a.toNat * 32, none⟩) 32 32) ∧ w = w' := by
  have := sector_any b off n c a.toNat w hk hc
  rwa [Int.toNat_of_nonneg ha] at this

theorem crAt_succ {dry : List UInt8} {wet : List Pg} {ms : List UInt8} {k : Nat} {p : Pg} {m : UInt8} (hp : wet[k]? = some p) (hm : ms[k]? = some m) : crAt dry wet ms (k + 1) = keepG (crAt dry wet ms k) (p.at_.toNat * 32) p.b m 8 := by
  simp only [crAt, hp, hm]

set_option maxHeartbeats 8000000 in
theorem crash_good (lo : Nat) (v : Value) (d : Dk) (A3 : Option Addr) (c3 : Nat) (ms : List UInt8) (w : World) (h : Dsk lo w.heap.size w v d) (hm : Bs lo w.heap.size w (.slice A3 ms.length c3) ms) (hq : okD d = true) (hL : d.dry.length ≤ 1000000) (hW : d.wet.length ≤ 1000) :
    Calls Tryd.prog 24 #[v, .slice A3 ms.length c3] w fun e w' => ∃ v', e = .returned (.tuple #[v', .int .i64 0]) ∧ Dsk w.heap.size w'.heap.size w' v' (crD d ms).1 ∧ Below w.heap.size w w' := by
  have hck : ∀ W, Below w.heap.size w W → Calls Tryd.prog 44 #[v] W fun e w' => e = .returned (.int .i64 (badE true)) ∧ Below W.heap.size W w' :=
    fun W hB => by have := check_any lo v d W ((h.below hB (Nat.le_refl _)).mono (Nat.le_refl _) hB.size); rwa [hq] at this
  obtain ⟨_, hge, _, _, hr, hp⟩ := okD_parts hq
  obtain ⟨va, vb, rfl, ha, hb⟩ := h
  have hdr := fun W hB => dried_any lo va vb (.int .i64 d.left) d.dry W (((ha.below (B := w.heap.size) hB (Nat.le_refl _)).mono (Nat.le_refl _) (Below.size hB)) : Bs lo W.heap.size W va d.dry) hL
  obtain ⟨A1, c1, rfl, _⟩ := ha
  obtain ⟨A, c, rfl, hlc, hc, hA, hcell⟩ := hb
  have hml : ms.length ≤ 9223372036854775807 := by obtain ⟨_, _, e, x1, x2, _⟩ := hm; omega
  replace hck := hide hck; replace hdr := hide hdr; replace hA := hide hA; replace hcell := hide hcell; replace hm := hide hm; replace hr := hide hr; replace hp := hide hp
  have hcr : (crD d ms).1 = ⟨crAt d.dry d.wet ms (min d.wet.length ms.length), [], -1⟩ := by simp [crD, hq]
  replace hcr := hide hcr; replace hq := hide hq
  have b2 : (badE true != 0) = false := rfl
  go_enter Tryd.func24, Tryd.ntmps24
  go_wp2_with (first
    | (go_at_call 44; refine (unhide hck _ (by (repeat (first | with_reducible exact Below.refl _ _ | with_reducible assumption | with_reducible refine Below.drew ?_ | with_reducible refine bl_alloc ?_ _ | with_reducible refine bl_call ?_ (by assumption) | (focus (with_reducible refine Below.setCell ?_ ?_ _; rotate_left; focus (first | omega | (simp <;> omega)))) | fail)))).mono ?_; rintro e w1 ⟨rfl, hb1⟩; have HB1 : Below w.heap.size w w1 := bl_call (by (repeat (first | with_reducible exact Below.refl _ _ | with_reducible assumption | with_reducible refine Below.drew ?_ | with_reducible refine bl_alloc ?_ _ | with_reducible refine bl_call ?_ (by assumption) | (focus (with_reducible refine Below.setCell ?_ ?_ _; rotate_left; focus (first | omega | (simp <;> omega)))) | fail))) hb1
       have kb := hide (Blk.below (g := w.heap.size) (t := 31) (cs := #[.slice A1 d.dry.length c1, .slice A d.wet.length c, .int .i64 d.left]) (by (repeat (first | with_reducible assumption | (focus (with_reducible refine Blk.new ?_; focus (simp <;> fail))) | with_reducible refine Blk.set3 (a := .slice none 0 0) (b := .slice none 0 0) (c := .int .i64 0) ?_ | with_reducible refine Blk.alloc ?_ _ | with_reducible refine Blk.drew ?_ | (focus (with_reducible refine Blk.far ?_ ?_ _; rotate_left; focus (first | omega | (simp <;> omega)))) | (focus (with_reducible refine Blk.below ?_ hb1 ?_; rotate_left; focus (first | omega | (simp <;> omega)))) | fail))) hb1 (by simp <;> omega))
       have kr := hide (Blk.below (g := w.heap.size + 1) (t := 31) (cs := #[.slice none 0 0, .slice none 0 0, .int .i64 0]) (by (repeat (first | with_reducible assumption | (focus (with_reducible refine Blk.new ?_; focus (simp <;> fail))) | with_reducible refine Blk.set3 (a := .slice none 0 0) (b := .slice none 0 0) (c := .int .i64 0) ?_ | with_reducible refine Blk.alloc ?_ _ | with_reducible refine Blk.drew ?_ | (focus (with_reducible refine Blk.far ?_ ?_ _; rotate_left; focus (first | omega | (simp <;> omega)))) | (focus (with_reducible refine Blk.below ?_ hb1 ?_; rotate_left; focus (first | omega | (simp <;> omega)))) | fail))) hb1 (by simp)); (obtain ⟨hc1, hf1⟩ := bcell hb1; have hz1 := hb1.size; (try have y0 : w.heap.size < w1.heap.size := (by (simp at hz1; omega))); (try have y1 : w.heap.size + 1 < w1.heap.size := (by (simp at hz1; omega))); (try have y2 : w.heap.size + 2 < w1.heap.size := (by (simp at hz1; omega))); (try have y3 : w.heap.size + 3 < w1.heap.size := (by (simp at hz1; omega))); clear hz1))
    | (go_at_call 52; refine (unhide hdr _ HB1).mono ?_; rintro e w2 ⟨A', c', rfl, ho, hb2⟩; obtain ⟨hc2, hf2⟩ := bcell hb2; have HB2 : Below w.heap.size w w2 := bl_call HB1 hb2; have z0 := hb2.size
       replace kb := hide ((unhide kb).below hb2 y0); replace kr := hide ((unhide kr).below hb2 y1); replace ho := hide ho
       have z1 : w.heap.size < w2.heap.size := Nat.lt_of_lt_of_le y0 z0
       have e1 : w2.cell? ⟨w.heap.size, 1, none⟩ = some (.slice A d.wet.length c) := ((unhide kb).cell 1).trans rfl)
    | fail)
  all_goals
    obtain ⟨gD, capD, cur, hA', hgD, hbD, hncD, _, hszD, htkD⟩ : ∃ gD capD, ∃ cur : Array Value, (Value.slice A' d.dry.length c') = .slice (some ⟨gD, 0, none⟩) d.dry.length capD ∧ w1.heap.size ≤ gD ∧ Blk w2 gD 5 cur ∧ d.dry.length ≤ capD ∧ capD ≤ maxLen ∧ cur.size = capD * 1 ∧ cur.toList.take (d.dry.length * 1) = d.dry.map u8v := by
      rcases (unhide ho).2 with ⟨_, h0⟩ | ⟨g, cap, cur, x1, x2, x3, x4, x5, x6, x7⟩
      · omega
      · exact ⟨g, cap, cur, x1, x2, x3, x4, x5, x6, x7⟩
    injection hA' with hA1 _ hA2
    subst hA1 hA2
    obtain ⟨S, hS⟩ : ∃ S, cur.toList = d.dry.map u8v ++ S := ⟨cur.toList.drop (d.dry.length * 1), by rw [← htkD, List.take_append_drop]⟩
    have hbD' : Hid (Blk w2 gD 5 (d.dry.map u8v ++ S).toArray) := by
      have : cur = (d.dry.map u8v ++ S).toArray := by rw [← hS, Array.toArray_toList]
      rw [← this]; exact hbD
    have lD := (unhide hbD').lt
    have hcap : c' ≤ 9223372036854775807 := by have : c' ≤ maxLen := by assumption
                                               simpa [maxLen] using this
    have hdiv : d.dry.length / 32 * 32 ≤ c' := by omega
    clear hS htkD hszD hbD ho hck hdr hc1 hf1 hc2 hf2 b2
    have nD : w.heap.size ≤ gD := Nat.le_trans (Nat.le_of_lt y0) hgD
    have dn : w2.heap.size ≠ gD := by omega
    have dr : w.heap.size + 1 ≠ gD := (unhide kr).ne_ (unhide hbD') (by decide)
    have y1' : w.heap.size + 1 < w2.heap.size := Nat.lt_of_lt_of_le y1 z0
    go_loopw [25] (fun i wr => ∃ k : Nat, k ≤ d.wet.length ∧ k ≤ ms.length ∧ i = .int .i64 k ∧ Hid (Blk wr gD 5 ((crAt d.dry d.wet ms k).map u8v ++ S).toArray) ∧ Hid (Blk wr w2.heap.size 31 #[.slice (some ⟨gD, 0, none⟩) d.dry.length c', .slice none 0 0, .int .i64 (-1)]) ∧ Hid (Blk wr (w.heap.size + 1) 31 #[.slice none 0 0, .slice none 0 0, .int .i64 0]) ∧ Hid (Below w.heap.size w wr)) (fun i _ => d.wet.length - (intOf i).toNat)
    case atStart =>
      exact ⟨0, Nat.zero_le _, Nat.zero_le _, rfl, (unhide hbD').alloc _, Blk.new rfl, (unhide kr).alloc _, bl_alloc HB2 _⟩
    case round =>
      obtain ⟨k, hk1, hk2, rfl, q1, q2, q3, q4⟩ := hrel
      clear e1 hbD'
      by_cases hlt : k < d.wet.length ∧ k < ms.length
      · obtain ⟨hlt1, hlt2⟩ := hlt
        obtain ⟨b, off, rfl, hb1', hb2'⟩ := (unhide hA) (by omega)
        obtain ⟨cs, hcs, hcc, bv, rfl, hbv⟩ := (unhide hcell) b off rfl k hlt1
        obtain ⟨p, hpe⟩ : ∃ p, d.wet[k] = p := ⟨_, rfl⟩
        have hpk : d.wet[k]? = some p := by rw [List.getElem?_eq_getElem hlt1, hpe]
        rw [hpe] at hcc hbv
        obtain ⟨pa, pb, pc⟩ := (unhide hp) k p hpk
        have c0 := ((unhide q4).cell (p := ⟨b, off + k * 2 + 0, none⟩) hb2').trans (hcc 0 (by simp))
        have c1' := ((unhide q4).cell (p := ⟨b, off + k * 2 + 1, none⟩) hb2').trans (hcc 1 (by simp))
        obtain ⟨A2, c2, rfl, x1, x2, x3⟩ := hbv
        obtain ⟨b2', o2, rfl, _, hb2lt, hcell2⟩ := x3 (by omega)
        simp only [List.getElem_cons_zero, List.getElem_cons_succ, Nat.add_zero] at c0 c1'
        rw [pc] at c1' x1
        obtain ⟨A3', c3', e3, _, _, hm3⟩ := unhide hm
        injection e3 with e3 _ e5
        subst e5
        obtain ⟨b3, o3, e4, _, hb3lt, hcell3⟩ := hm3 (by omega)
        rw [e4] at e3
        subst e3
        have c3' := ((unhide q4).cell (p := ⟨b3, o3 + k, none⟩) hb3lt).trans (hcell3 k hlt2)
        obtain ⟨m, hme⟩ : ∃ m, ms[k] = m := ⟨_, rfl⟩
        have hmk : ms[k]? = some m := by rw [List.getElem?_eq_getElem hlt2, hme]
        rw [hme] at c3'
        unfold u8v at c3'
        have g0 := (unhide q2).cell 0
        simp at g0
        have l1 := (unhide q1).lt
        have l2 := (unhide q2).lt
        have hlen := crAt_length d.dry d.wet ms k (unhide hp)
        have hkg : ∀ W, Below w.heap.size w W → Blk W gD 5 ((crAt d.dry d.wet ms k).map u8v ++ S).toArray → Calls Tryd.prog 53 #[.slice (some ⟨gD, p.at_.toNat * 32, none⟩) 32 32, .slice (some ⟨b2', o2, none⟩) 32 c2, .int .u8 (m.toNat : Int)] W fun e w' => e = .returned (.tuple #[]) ∧ Blk w' gD 5 ((crAt d.dry d.wet ms (k + 1)).map u8v ++ S).toArray ∧ Only gD W w' := by
          intro W hB hG
          have := keepGroups_any gD (p.at_.toNat * 32) c2 (some ⟨b2', o2, none⟩) _ (p.b.map u8v) m W hG (by simp [hlen]; omega) (by simp [pc]) (u8s_one _) x1 x2 ⟨b2', o2, rfl, by omega, fun i u hu => by
            rw [List.getElem?_map, Option.map_eq_some_iff] at hu
            obtain ⟨x, hx, rfl⟩ := hu
            obtain ⟨hi, rfl⟩ := List.getElem?_eq_some_iff.1 hx
            exact (hB.cell (p := ⟨b2', o2 + i, none⟩) hb2lt).trans (hcell2 i hi)⟩
          rw [keepG_app _ _ _ _ _ _ (by simp [hlen]; omega) (by simp [pc]) (by omega), ← keepG_map, ← crAt_succ hpk hmk] at this
          exact this
        have hsc : (p.at_.toNat + 1) * 32 ≤ c' := by omega
        replace hkg := hide hkg; replace hpk := hide hpk; replace hmk := hide hmk; replace hcell2 := hide hcell2; replace hcell3 := hide hcell3; replace hcc := hide hcc; replace hpe := hide hpe; replace hme := hide hme; replace hlen := hide hlen; replace e4 := hide e4; replace pc := hide pc
        clear x3 hm3 hcs
        have i1 : (0 : Int) ≤ (k : Int) := by omega
        have i2 : (k : Int) < (ms.length : Int) := by omega
        have i3 : (k : Int) < (d.wet.length : Int) := by omega
        have nb3 : b3 ≠ gD := by omega
        go_wp2_with fail
        have lr := (unhide q3).lt
        have np : wr.heap.size ≠ gD := by omega
        have HBr : Below w.heap.size w (wr.alloc (.cells #[.int .i64 p.at_, .slice (some ⟨b2', o2, none⟩) 32 c2] 56)) := bl_alloc (unhide q4) _
        have KD := (unhide q1).alloc (.cells #[.int .i64 p.at_, .slice (some ⟨b2', o2, none⟩) 32 c2] 56)
        replace HBr := hide HBr; replace KD := hide KD
        have b3r : b3 < wr.heap.size := by omega
        go_region_held3 (fun W => W.cell? ⟨w2.heap.size, 0, none⟩ = some (.slice (some ⟨gD, 0, none⟩) d.dry.length c') ∧ W.cell? ⟨wr.heap.size, 0, none⟩ = some (.int .i64 p.at_) ∧ W.cell? ⟨wr.heap.size, 1, none⟩ = some (.slice (some ⟨b2', o2, none⟩) 32 c2) ∧ W.cell? ⟨b3, o3 + k, none⟩ = some (.int .u8 (m.toNat : Int))) (first | exact ⟨by go_simp, by go_simp, by go_simp, by go_simp⟩)
          (first
            | (go_at_call 54; refine (sector_int gD 0 d.dry.length c' p.at_ _ pa hsc hcap).mono ?_; rintro e w3 ⟨rfl, rfl⟩; simp only [Nat.zero_add])
            | (go_at_call 53; refine (unhide hkg _ (unhide HBr).drew (unhide KD).drew).mono ?_; rintro e w3 ⟨rfl, B3, O3⟩
               have s1 := O3.cell (p := ⟨w2.heap.size, 0, none⟩) dn
               have s2 := O3.cell (p := ⟨wr.heap.size, 0, none⟩) np
               have s3 := O3.cell (p := ⟨wr.heap.size, 1, none⟩) np
               have s4 := O3.cell (p := ⟨b3, o3 + k, none⟩) nb3
               replace B3 := hide B3))
        clear s1 s2 s3 s4
        go_wp2_with fail
        go_roundw
        case rel =>
          have R1 := hide (((unhide q2).alloc (.cells #[.int .i64 p.at_, .slice (some ⟨b2', o2, none⟩) 32 c2] 56)).drew.only O3 dn)
          have R2 := hide (((unhide q3).alloc (.cells #[.int .i64 p.at_, .slice (some ⟨b2', o2, none⟩) 32 c2] 56)).drew.only O3 dr)
          have R3 := hide (((unhide HBr).drew).trans (O3.below nD))
          exact ⟨k + 1, by omega, by omega, by go_num, B3, R1, R2, R3⟩
        case measure => simp [intOf]; omega
      · have hmin : k = min d.wet.length ms.length := by omega
        replace hmin := hide hmin
        have g0 := (unhide q2).cell 0; have g1 := (unhide q2).cell 1; have g2 := (unhide q2).cell 2
        have r0 := (unhide q3).cell 0; have r1 := (unhide q3).cell 1; have r2 := (unhide q3).cell 2
        have f0 := (unhide q3).frozen 0; have f1 := (unhide q3).frozen 1; have f2 := (unhide q3).frozen 2
        simp at g0 g1 g2 r0 r1 r2
        go_wp2_with fail
        refine ret_disk2 rfl (w.heap.size + 1) #[.slice (some ⟨gD, 0, none⟩) d.dry.length c', .slice none 0 0, .int .i64 (-1)] rfl (.int .i64 0) rfl rfl (unhide q3).set3 rfl ⟨_, rfl, ?_, ?_⟩
        · rw [unhide hcr, ← unhide hmin]
          have G := ((((unhide q1).far (p := ⟨w.heap.size + 1, 0, none⟩) (Ne.symm dr) (.slice (some ⟨gD, 0, none⟩) d.dry.length c')).far (p := ⟨w.heap.size + 1, 1, none⟩) (Ne.symm dr) (.slice none 0 0)).far (p := ⟨w.heap.size + 1, 2, none⟩) (Ne.symm dr) (.int .i64 (-1)))
          have hlen := crAt_length d.dry d.wet ms k (unhide hp)
          refine ⟨_, _, rfl, ⟨_, c', by rw [hlen], by simp only [hlen]; exact hncD, hcap, fun _ => ⟨gD, 0, rfl, nD, G.lt, fun i hi => ?_⟩⟩, ⟨none, 0, rfl, by simp, by omega, fun h0 => by simp at h0, fun b off e => by cases e⟩⟩
          rw [Nat.zero_add, G.cell]
          simp only [List.getElem?_toArray]
          rw [List.getElem?_append_left (by simpa using hi), List.getElem?_map, List.getElem?_eq_getElem hi]
          rfl
        · have bl' := unhide q4
          (repeat (first | with_reducible exact Below.refl _ _ | with_reducible assumption | with_reducible refine Below.drew ?_ | with_reducible refine bl_alloc ?_ _ | with_reducible refine bl_call ?_ (by assumption) | (focus (with_reducible refine Below.setCell ?_ ?_ _; rotate_left; focus (first | omega | (simp <;> omega)))) | fail))

end Go.Proofs.YtommlgdolahfbaaDoor
