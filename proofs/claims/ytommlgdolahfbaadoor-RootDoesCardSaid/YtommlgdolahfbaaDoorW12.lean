import Derived.Test.YtommlgdolahfbaaDoorW7
namespace Go.Proofs.YtommlgdolahfbaaDoor
set_option maxRecDepth 100000
open Go.RowKit

/-- What stands in a sector. -/
def sectorOf (d : Dk) (at_ : Int) : List UInt8 := match d.wet.find? (fun p => decide (p.at_ = at_)) with
  | some p => p.b
  | none => (d.dry.drop (at_.toNat * 32)).take 32
/-- What Read answers. -/
def rdD (d : Dk) (at_ : Int) : List UInt8 × Int := if okD d && hasB d.dry.length at_ then (sectorOf d at_, 0) else ([], 1)

theorem find_at {ps : List Pg} {at_ : Int} {i : Nat} (h : Place ps at_ i) (ha : isAt ps at_ i = true) : ∃ p, ps[i]? = some p ∧ ps.find? (fun p => decide (p.at_ = at_)) = some p := by
  unfold isAt at ha
  cases hq : ps[i]? with
  | none => rw [hq] at ha; cases ha
  | some p =>
    rw [hq] at ha
    obtain ⟨hi, hpe⟩ := List.getElem?_eq_some_iff.1 hq
    refine ⟨p, rfl, ?_⟩
    rw [List.find?_eq_some_iff_getElem]
    refine ⟨ha, i, hi, hpe, fun j hj => ?_⟩
    have := h.2.1 j (by omega) hj
    simp
    omega

theorem find_not {ps : List Pg} {at_ : Int} {i : Nat} (h : Place ps at_ i) (hr : Rises ps) (ha : isAt ps at_ i = false) : ps.find? (fun p => decide (p.at_ = at_)) = none := by
  rw [List.find?_eq_none]
  intro p hp
  obtain ⟨j, hj, rfl⟩ := List.mem_iff_getElem.1 hp
  simp only [decide_eq_true_eq]
  intro he
  rcases Nat.lt_or_ge j i with h1 | h1
  · have := h.2.1 j hj h1; omega
  · rcases Nat.lt_or_ge i j with h2 | h2
    · have h3 := h.2.2 i (by omega) (Nat.le_refl _)
      have h4 := hr i j (by omega) hj h2
      omega
    · obtain rfl : i = j := by omega
      unfold isAt at ha
      rw [List.getElem?_eq_getElem hj] at ha
      simp at ha
      exact ha he

set_option maxHeartbeats 1000000 in
theorem read_bad (lo : Nat) (v : Value) (d : Dk) (at_ : Int) (w : World) (h : Dsk lo w.heap.size w v d) (hq : (okD d && hasB d.dry.length at_) = false) :
    Calls Tryd.prog 25 #[v, .int .i64 at_] w fun e w' => e = .returned (.tuple #[.slice none 0 0, .int .i64 1]) ∧ Below w.heap.size w w' := by
  have hck : ∀ W, Below w.heap.size w W → Calls Tryd.prog 44 #[v] W fun e w' => e = .returned (.int .i64 (badE (okD d))) ∧ Below W.heap.size W w' :=
    fun W hB => check_any lo v d W ((h.below hB (Nat.le_refl _)).mono (Nat.le_refl _) hB.size)
  obtain ⟨va, vb, rfl, ha, hb⟩ := h
  obtain ⟨A1, c1, rfl, hl1, hl2, hl3⟩ := ha
  obtain ⟨A2, c2, rfl, hb3⟩ := hb
  clear hb3
  have hhs := fun W => has_any A1 d.dry.length c1 (.slice A2 d.wet.length c2) (.int .i64 d.left) at_ W (by omega)
  have hq' : okD d = false ∨ (okD d = true ∧ hasB d.dry.length at_ = false) := by
    cases h1 : okD d <;> simp_all
  clear hl1 hl2 hl3
  generalize okD d = ok at *
  generalize hasB d.dry.length at_ = hs at *
  replace hck := hide hck; replace hhs := hide hhs; replace hq := hide hq
  have b1 : (badE false != 0) = true := rfl
  have b2 : (badE true != 0) = false := rfl
  rcases hq' with rfl | ⟨rfl, rfl⟩
  · go_enter Tryd.func25, Tryd.ntmps25
    go_wp2_with (first
      | (go_at_call 44; refine (unhide hck _ (by (repeat (first | with_reducible exact Below.refl _ _ | with_reducible assumption | with_reducible refine Below.drew ?_ | with_reducible refine bl_alloc ?_ _ | with_reducible refine bl_call ?_ (by assumption) | (focus (with_reducible refine Below.setCell ?_ ?_ _; rotate_left; focus (first | omega | (simp <;> omega)))) | fail)))).mono ?_; rintro e w1 ⟨rfl, hb1⟩; (obtain ⟨hc1, hf1⟩ := bcell hb1; have hz1 := hb1.size; (try have y0 : w.heap.size < w1.heap.size := (by (simp at hz1; omega))); (try have y1 : w.heap.size + 1 < w1.heap.size := (by (simp at hz1; omega))); (try have y2 : w.heap.size + 2 < w1.heap.size := (by (simp at hz1; omega))); (try have y3 : w.heap.size + 3 < w1.heap.size := (by (simp at hz1; omega))); clear hz1); have HB1 : Below w.heap.size w w1 := bl_call (by (repeat (first | with_reducible exact Below.refl _ _ | with_reducible assumption | with_reducible refine Below.drew ?_ | with_reducible refine bl_alloc ?_ _ | with_reducible refine bl_call ?_ (by assumption) | (focus (with_reducible refine Below.setCell ?_ ?_ _; rotate_left; focus (first | omega | (simp <;> omega)))) | fail))) hb1)
      | fail)
    go_ret2
    exact ⟨rfl, by (repeat (first | with_reducible exact Below.refl _ _ | with_reducible assumption | with_reducible refine Below.drew ?_ | with_reducible refine bl_alloc ?_ _ | with_reducible refine bl_call ?_ (by assumption) | (focus (with_reducible refine Below.setCell ?_ ?_ _; rotate_left; focus (first | omega | (simp <;> omega)))) | fail))⟩
  · go_enter Tryd.func25, Tryd.ntmps25
    go_wp2_with (first
      | (go_at_call 44; refine (unhide hck _ (by (repeat (first | with_reducible exact Below.refl _ _ | with_reducible assumption | with_reducible refine Below.drew ?_ | with_reducible refine bl_alloc ?_ _ | with_reducible refine bl_call ?_ (by assumption) | (focus (with_reducible refine Below.setCell ?_ ?_ _; rotate_left; focus (first | omega | (simp <;> omega)))) | fail)))).mono ?_; rintro e w1 ⟨rfl, hb1⟩; (obtain ⟨hc1, hf1⟩ := bcell hb1; have hz1 := hb1.size; (try have y0 : w.heap.size < w1.heap.size := (by (simp at hz1; omega))); (try have y1 : w.heap.size + 1 < w1.heap.size := (by (simp at hz1; omega))); (try have y2 : w.heap.size + 2 < w1.heap.size := (by (simp at hz1; omega))); (try have y3 : w.heap.size + 3 < w1.heap.size := (by (simp at hz1; omega))); clear hz1); have HB1 : Below w.heap.size w w1 := bl_call (by (repeat (first | with_reducible exact Below.refl _ _ | with_reducible assumption | with_reducible refine Below.drew ?_ | with_reducible refine bl_alloc ?_ _ | with_reducible refine bl_call ?_ (by assumption) | (focus (with_reducible refine Below.setCell ?_ ?_ _; rotate_left; focus (first | omega | (simp <;> omega)))) | fail))) hb1)
      | (go_at_call 45; refine (unhide hhs _).mono ?_; rintro e w2 ⟨rfl, hb2⟩)
      | fail)
    go_ret2
    exact ⟨rfl, by (repeat (first | with_reducible exact Below.refl _ _ | with_reducible assumption | with_reducible refine Below.drew ?_ | with_reducible refine bl_alloc ?_ _ | with_reducible refine bl_call ?_ (by assumption) | (focus (with_reducible refine Below.setCell ?_ ?_ _; rotate_left; focus (first | omega | (simp <;> omega)))) | fail))⟩

set_option maxHeartbeats 2000000 in
theorem read_good (lo : Nat) (v : Value) (d : Dk) (at_ : Int) (w : World) (h : Dsk lo w.heap.size w v d) (hok : okD d = true) (hhs : hasB d.dry.length at_ = true) (hL : d.dry.length ≤ 1000000) (hW : d.wet.length ≤ 1000) :
    Calls Tryd.prog 25 #[v, .int .i64 at_] w fun e w' => ∃ v', e = .returned (.tuple #[v', .int .i64 0]) ∧ Bs w.heap.size w'.heap.size w' v' (sectorOf d at_) ∧ Below w.heap.size w w' := by
  have hck : ∀ W, Below w.heap.size w W → Calls Tryd.prog 44 #[v] W fun e w' => e = .returned (.int .i64 (badE true)) ∧ Below W.heap.size W w' :=
    fun W hB => by have := check_any lo v d W ((h.below hB (Nat.le_refl _)).mono (Nat.le_refl _) hB.size); rwa [hok] at this
  obtain ⟨_, hge, _, _, hr, hp⟩ := okD_parts hok
  obtain ⟨va, vb, rfl, ha, hb⟩ := h
  have hfd : ∀ W, Below w.heap.size w W → Calls Tryd.prog 49 #[vb, .int .i64 at_] W fun e w' => ∃ i : Nat, e = .returned (.tuple #[.int .i64 i, .bool (isAt d.wet at_ i)]) ∧ Place d.wet at_ i ∧ Below W.heap.size W w' :=
    fun W hB => find_any lo vb d.wet at_ W ((hb.below hB (Nat.le_refl _)).mono (Nat.le_refl _) hB.size) hr (by omega)
  have hcl : ∀ W x l, Bs lo w.heap.size w x l → Below w.heap.size w W → l.length ≤ 1000000 → Calls Tryd.prog 51 #[x] W fun e w' => ∃ A' c', e = .returned (.slice A' l.length c') ∧ w'.ownsRow W.heap.size 5 1 (.slice A' l.length c') l.length (l.map u8v) ∧ Below W.heap.size W w' :=
    fun W x l hx hB hl => bclone lo x l W ((hx.below hB (Nat.le_refl _)).mono (Nat.le_refl _) hB.size) hl
  obtain ⟨A1, c1, rfl, hl1, hl2, hl3⟩ := ha
  obtain ⟨b1, o1, rfl, hb1, hb2, hc1⟩ := hl3 (by omega)
  obtain ⟨A, c, rfl, hlc, hc, hA, hcell⟩ := hb
  have hhs' := fun W => has_any (some ⟨b1, o1, none⟩) d.dry.length c1 (.slice A d.wet.length c) (.int .i64 d.left) at_ W (by omega)
  rw [hhs] at hhs'
  simp only [hasB, decide_eq_true_eq] at hhs
  obtain ⟨a0, a1⟩ := hhs
  have hsec : Bs lo w.heap.size w (.slice (some ⟨b1, o1 + at_.toNat * 32, none⟩) 32 32) ((d.dry.drop (at_.toNat * 32)).take 32) := by
    have hl : ((d.dry.drop (at_.toNat * 32)).take 32).length = 32 := by rw [List.length_take, List.length_drop]; omega
    refine ⟨_, 32, by rw [hl], by omega, by omega, fun _ => ⟨b1, _, rfl, hb1, hb2, fun i hi => ?_⟩⟩
    rw [hl] at hi
    rw [List.getElem_take, List.getElem_drop, Nat.add_assoc]
    exact hc1 _ _
  have hsl : ((d.dry.drop (at_.toNat * 32)).take 32).length = 32 := by rw [List.length_take, List.length_drop]; omega
  obtain ⟨sec, hsd⟩ : ∃ s, s = (d.dry.drop (at_.toNat * 32)).take 32 := ⟨_, rfl⟩
  rw [← hsd] at hsec hsl
  replace hsd := hide hsd
  have hk : (at_.toNat + 1) * 32 ≤ c1 := by omega
  have hsc := fun W => by
    have := sector_any b1 o1 d.dry.length c1 at_.toNat W hk hl2
    rw [Int.toNat_of_nonneg a0] at this
    exact this
  replace hck := hide hck; replace hfd := hide hfd; replace hcl := hide hcl; replace hhs' := hide hhs'; replace hsec := hide hsec; replace hsl := hide hsl; replace hsc := hide hsc; replace hr := hide hr; replace hp := hide hp; replace hA := hide hA; replace hcell := hide hcell
  clear hc1 hl3 hok
  have q2 : (badE true != 0) = false := rfl
  go_enter Tryd.func25, Tryd.ntmps25
  go_wp2_with (first
    | (go_at_call 44; refine (unhide hck _ (by (repeat (first | with_reducible exact Below.refl _ _ | with_reducible assumption | with_reducible refine Below.drew ?_ | with_reducible refine bl_alloc ?_ _ | with_reducible refine bl_call ?_ (by assumption) | (focus (with_reducible refine Below.setCell ?_ ?_ _; rotate_left; focus (first | omega | (simp <;> omega)))) | fail)))).mono ?_; rintro e w1 ⟨rfl, hb1⟩; have HB1 : Below w.heap.size w w1 := bl_call (by (repeat (first | with_reducible exact Below.refl _ _ | with_reducible assumption | with_reducible refine Below.drew ?_ | with_reducible refine bl_alloc ?_ _ | with_reducible refine bl_call ?_ (by assumption) | (focus (with_reducible refine Below.setCell ?_ ?_ _; rotate_left; focus (first | omega | (simp <;> omega)))) | fail))) hb1
       have kb := hide (Blk.below (g := w.heap.size) (t := 31) (cs := #[.slice (some ⟨b1, o1, none⟩) d.dry.length c1, .slice A d.wet.length c, .int .i64 d.left]) (Blk.new rfl) hb1 (by simp)); (obtain ⟨hc1, hf1⟩ := bcell hb1; have hz1 := hb1.size; (try have y0 : w.heap.size < w1.heap.size := (by (simp at hz1; omega))); (try have y1 : w.heap.size + 1 < w1.heap.size := (by (simp at hz1; omega))); (try have y2 : w.heap.size + 2 < w1.heap.size := (by (simp at hz1; omega))); (try have y3 : w.heap.size + 3 < w1.heap.size := (by (simp at hz1; omega))); clear hz1))
    | (go_at_call 45; refine (unhide hhs' _).mono ?_; rintro e w2 ⟨rfl, hb2⟩; obtain ⟨hc2, hf2⟩ := bcell hb2; have HB2 : Below w.heap.size w w2 := bl_call HB1 hb2; replace kb := hide ((unhide kb).below hb2 y0)
       have e0 : w2.cell? ⟨w.heap.size, 0, none⟩ = some (.slice (some ⟨b1, o1, none⟩) d.dry.length c1) := ((unhide kb).cell 0).trans rfl
       have e1 : w2.cell? ⟨w.heap.size, 1, none⟩ = some (.slice A d.wet.length c) := ((unhide kb).cell 1).trans rfl)
    | (go_at_call 49; refine (unhide hfd _ HB2).mono ?_; rintro e w3 ⟨i, rfl, hpl, hb3⟩; have HB3 : Below w.heap.size w w3 := bl_call HB2 hb3; replace kb := hide ((unhide kb).below hb3 (unhide kb).lt); replace hpl := hide hpl
       have t0 : w3.cell? ⟨w.heap.size, 0, none⟩ = some (.slice (some ⟨b1, o1, none⟩) d.dry.length c1) := ((unhide kb).cell 0).trans rfl
       have t1 : w3.cell? ⟨w.heap.size, 1, none⟩ = some (.slice A d.wet.length c) := ((unhide kb).cell 1).trans rfl
       have hpg : isAt d.wet at_ i = false ∨ (isAt d.wet at_ i = true ∧ ∃ (bp op : Nat) (px : Value), A = some ⟨bp, op, none⟩ ∧ i < d.wet.length ∧ w3.cell? ⟨bp, op + i * 2 + 1, none⟩ = some px ∧ Bs lo w.heap.size w px (sectorOf d at_) ∧ (sectorOf d at_).length = 32) := (by
         cases hat : isAt d.wet at_ i
         · exact .inl rfl
         · obtain ⟨p, hpi, hfp⟩ := find_at (unhide hpl) hat
           obtain ⟨hin, hpe⟩ := List.getElem?_eq_some_iff.1 hpi
           obtain ⟨bp, op, rfl, _, hblt⟩ := (unhide hA) (by omega)
           obtain ⟨cs, hcs, hcc, px, rfl, hpx⟩ := (unhide hcell) bp op rfl i hin
           have hso : sectorOf d at_ = p.b := by unfold sectorOf; rw [hfp]
           rw [hso]
           rw [hpe] at hpx hcc
           exact .inr ⟨rfl, bp, op, px, rfl, hin, (HB3.cell (p := ⟨bp, op + i * 2 + 1, none⟩) hblt).trans (hcc 1 (by simp)), hpx, ((unhide hp) i p hpi).2.2⟩)
       rcases hpg with hat | ⟨hat, bp, op, px, rfl, hin, hcx, hpx, hln⟩
       rotate_left
       have i1 : (0 : Int) ≤ (i : Int) := (by omega)
       have i2 : (i : Int) < (d.wet.length : Int) := (by omega)
       replace hpx := hide hpx; replace hln := hide hln)
    | (go_at_call 54; refine (unhide hsc _).mono ?_; rintro e w4 ⟨rfl, rfl⟩)
    | fail)
  · have hcc := (unhide hcl) w3 _ _ (unhide hpx) HB3 (by rw [unhide hln]; omega)
    refine hcc.mono ?_
    rintro e w5 ⟨A5, c5, rfl, ho5, hb5⟩
    replace ho5 := hide ho5
    clear hcc
    go_wp2_with fail
    go_ret2
    exact ⟨_, rfl, (Bs.of_own (unhide ho5)).mono (Nat.le_trans HB3.size (Nat.le_refl _)) (Nat.le_refl _), by (repeat (first | with_reducible exact Below.refl _ _ | with_reducible assumption | with_reducible refine Below.drew ?_ | with_reducible refine bl_alloc ?_ _ | with_reducible refine bl_call ?_ (by assumption) | (focus (with_reducible refine Below.setCell ?_ ?_ _; rotate_left; focus (first | omega | (simp <;> omega)))) | fail))⟩
  · have hso : sectorOf d at_ = sec := by unfold sectorOf; rw [find_not (unhide hpl) (unhide hr) hat, unhide hsd]
    replace hso := hide hso; replace hat := hide hat
    have hcc := (unhide hcl) w3 _ _ (unhide hsec) HB3 (by rw [unhide hsl]; omega)
    refine hcc.mono ?_
    rintro e w5 ⟨A5, c5, rfl, ho5, hb5⟩
    replace ho5 := hide ho5
    clear hcc
    go_wp2_with fail
    go_ret2
    exact ⟨_, rfl, by rw [unhide hso]; exact (Bs.of_own (unhide ho5)).mono HB3.size (Nat.le_refl _), by (repeat (first | with_reducible exact Below.refl _ _ | with_reducible assumption | with_reducible refine Below.drew ?_ | with_reducible refine bl_alloc ?_ _ | with_reducible refine bl_call ?_ (by assumption) | (focus (with_reducible refine Below.setCell ?_ ?_ _; rotate_left; focus (first | omega | (simp <;> omega)))) | fail))⟩

theorem read_any (lo : Nat) (v : Value) (d : Dk) (at_ : Int) (w : World) (h : Dsk lo w.heap.size w v d) (hL : d.dry.length ≤ 1000000) (hW : d.wet.length ≤ 1000) :
    Calls Tryd.prog 25 #[v, .int .i64 at_] w fun e w' => ∃ v' E, e = .returned (.tuple #[v', .int .i64 E]) ∧ Bs w.heap.size w'.heap.size w' v' (rdD d at_).1 ∧ E = (rdD d at_).2 ∧ Below w.heap.size w w' := by
  cases hq : okD d && hasB d.dry.length at_
  · refine (read_bad lo v d at_ w h hq).mono ?_
    rintro e w' ⟨rfl, hb⟩
    have : rdD d at_ = ([], 1) := by simp [rdD, hq]
    rw [this]
    exact ⟨_, _, rfl, ⟨none, 0, rfl, by simp, by omega, fun h0 => by simp at h0⟩, rfl, hb⟩
  · have h' := hq
    rw [Bool.and_eq_true] at h'
    refine (read_good lo v d at_ w h h'.1 h'.2 hL hW).mono ?_
    rintro e w' ⟨v', rfl, hx, hb⟩
    have : rdD d at_ = (sectorOf d at_, 0) := by simp [rdD, hq]
    rw [this]
    exact ⟨_, _, rfl, hx, rfl, hb⟩

end Go.Proofs.YtommlgdolahfbaaDoor
