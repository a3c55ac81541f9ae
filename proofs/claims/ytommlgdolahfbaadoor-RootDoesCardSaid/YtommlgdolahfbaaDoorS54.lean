import Derived.Test.YtommlgdolahfbaaDoorS52
import Derived.Test.YtommlgdolahfbaaDoorW12
namespace Go.Proofs.YtommlgdolahfbaaDoor
set_option maxRecDepth 100000
open Go.RowKit

set_option maxHeartbeats 1000000 in
theorem refread_bad (lo : Nat) (v : Value) (d : Dk) (at_ : Int) (w : World) (h : Dsk lo w.heap.size w v d) (hq : (okD d && hasB d.dry.length at_) = false) :
    Calls Tryd.prog 42 #[v, .int .i64 at_] w fun e w' => e = .returned (.tuple #[.slice none 0 0, .int .i64 1]) ∧ Below w.heap.size w w' := by
  have his : ∀ W, Below w.heap.size w W → Calls Tryd.prog 56 #[v, .int .i64 at_] W fun e w' => e = .returned (.bool false) ∧ Below W.heap.size W w' :=
    fun W hB => by have := refis_any lo v d at_ W ((h.below hB (Nat.le_refl _)).mono (Nat.le_refl _) hB.size); rwa [hq] at this
  obtain ⟨A, c, A', c', rfl⟩ := h.form
  clear h
  replace his := hide his; replace hq := hide hq
  go_enter Tryd.func42, Tryd.ntmps42
  go_wp2_with (first
    | (go_at_call 56; refine (unhide his _ (by (repeat (first | with_reducible exact Below.refl _ _ | with_reducible assumption | with_reducible refine Below.drew ?_ | with_reducible refine bl_alloc ?_ _ | with_reducible refine bl_call ?_ (by assumption) | (focus (with_reducible refine Below.setCell ?_ ?_ _; rotate_left; focus (first | omega | (simp <;> omega)))) | fail)))).mono ?_; rintro e w1 ⟨rfl, hb1⟩; have HB1 : Below w.heap.size w w1 := bl_call (by (repeat (first | with_reducible exact Below.refl _ _ | with_reducible assumption | with_reducible refine Below.drew ?_ | with_reducible refine bl_alloc ?_ _ | with_reducible refine bl_call ?_ (by assumption) | (focus (with_reducible refine Below.setCell ?_ ?_ _; rotate_left; focus (first | omega | (simp <;> omega)))) | fail))) hb1; clear hb1)
    | fail)
  go_ret2
  exact ⟨rfl, HB1⟩

set_option maxRecDepth 100000 in
set_option maxHeartbeats 400000 in
theorem refread_good (lo : Nat) (v : Value) (d : Dk) (at_ : Int) (w : World) (h : Dsk lo w.heap.size w v d) (hok : okD d = true) (hhs : hasB d.dry.length at_ = true) (hL : d.dry.length ≤ 1000000) (hW : d.wet.length ≤ 1000) :
    Calls Tryd.prog 42 #[v, .int .i64 at_] w fun e w' => ∃ A c, e = .returned (.tuple #[.slice A (sectorOf d at_).length c, .int .i64 0]) ∧ w'.ownsRow w.heap.size 5 1 (.slice A (sectorOf d at_).length c) (sectorOf d at_).length ((sectorOf d at_).map u8v) ∧ Below w.heap.size w w' := by
  obtain ⟨i5, hi5, iz0, iz1, iz2⟩ := info_parts info5
  have his : ∀ W, Below w.heap.size w W → Calls Tryd.prog 56 #[v, .int .i64 at_] W fun e w' => e = .returned (.bool true) ∧ Below W.heap.size W w' :=
    fun W hB => by have := refis_any lo v d at_ W ((h.below hB (Nat.le_refl _)).mono (Nat.le_refl _) hB.size); rwa [hok, hhs] at this
  obtain ⟨_, hge, _, _, hr, hp⟩ := okD_parts hok
  simp only [hasB, decide_eq_true_eq] at hhs
  obtain ⟨a0, a1⟩ := hhs
  obtain ⟨va, vb, rfl, ha, hb⟩ := h
  obtain ⟨A1, c1, rfl, hl1, hl2, hl3⟩ := ha
  obtain ⟨b1, o1, rfl, hb1, hb2, hc1⟩ := hl3 (by omega)
  obtain ⟨A, c, rfl, hlc, hc, hA, hcell⟩ := hb
  obtain ⟨n, hn⟩ : ∃ n, n = d.wet.length := ⟨_, rfl⟩
  obtain ⟨N, hN⟩ : ∃ N, N = d.dry.length := ⟨_, rfl⟩
  obtain ⟨X, hX⟩ : ∃ X, X = sectorOf d at_ := ⟨_, rfl⟩
  have hXl : X.length = 32 := by
    rw [hX]; unfold sectorOf
    split
    · rename_i p hp'
      obtain ⟨i, hi⟩ := List.getElem?_of_mem (List.mem_of_find?_eq_some hp')
      exact (hp i p hi).2.2
    · rw [List.length_take, List.length_drop]; omega
  rw [← hn] at hlc hW his ⊢
  rw [← hN] at hl1 hL a1 hge his ⊢
  rw [← hX, hXl]
  obtain ⟨a32, ha32⟩ : ∃ a32, a32 = at_.toNat * 32 := ⟨_, rfl⟩
  have ha33 : a32 + 32 ≤ N := by omega
  have i1 : IntKind.i64.wrap (32 * at_) = (a32 : Int) := (IntWalk.i64_in _ (by omega)).trans (by omega)
  have i2 : IntKind.i64.wrap ((a32 : Int) + 32) = (a32 : Int) + 32 := IntWalk.i64_in _ (by omega)
  have hsl := fun W => dslice_lh b1 o1 N c1 a32 (a32 + 32) (by omega) (by omega) (by omega) W
  rw [show ((a32 + 32 : Nat) : Int) = (a32 : Int) + 32 by omega, show a32 + 32 - a32 = 32 by omega] at hsl
  have s1 : (X.map u8v).length = 32 * 1 := by simp [hXl]
  have s2 := u8s_one X
  have s3 : 0 + 32 ≤ maxLen := by simp only [maxLen]; omega
  have s4 : (0 + 32) * 1 ≤ 140737488355328 := by omega
  have hdry : (∀ (j : Nat) (q : Pg), d.wet[j]? = some q → q.at_ ≠ at_) → ∀ W, Below w.heap.size w W → SrcOk W (some ⟨b1, o1 + a32, none⟩) 32 (X.map u8v) := fun hno W hB _ => by
    have hX' : X = (d.dry.drop a32).take 32 := by
      rw [hX]; unfold sectorOf
      have : d.wet.find? (fun p => decide (p.at_ = at_)) = none := by
        rw [List.find?_eq_none]
        intro p hp'
        obtain ⟨i, hi⟩ := List.getElem?_of_mem hp'
        simpa using hno i p hi
      rw [this, ha32]
    refine ⟨_, rfl, fun j u hu => ?_⟩
    rw [hX', List.getElem?_map, Option.map_eq_some_iff] at hu
    obtain ⟨x, hx, rfl⟩ := hu
    obtain ⟨hj, rfl⟩ := List.getElem?_eq_some_iff.1 hx
    rw [List.length_take, List.length_drop] at hj
    rw [addk, List.getElem_take, List.getElem_drop, Nat.add_assoc]
    exact (hB.cell (p := ⟨b1, _, none⟩) hb2).trans (hc1 _ (by omega))
  replace his := hide his; replace hp := hide hp; replace hr := hide hr; replace hA := hide hA; replace hcell := hide hcell; replace hn := hide hn; replace hN := hide hN; replace hX := hide hX; replace hXl := hide hXl; replace ha32 := hide ha32; replace s1 := hide s1; replace s2 := hide s2; replace s3 := hide s3; replace s4 := hide s4; replace hdry := hide hdry
  clear hl3 hc1 hok
  go_enter Tryd.func42, Tryd.ntmps42
  go_wp2_with (first
    | (go_at_call 56; refine (unhide his _ (by (repeat (first | with_reducible exact Below.refl _ _ | with_reducible assumption | with_reducible refine Below.drew ?_ | with_reducible refine bl_alloc ?_ _ | with_reducible refine bl_call ?_ (by assumption) | (focus (with_reducible refine Below.setCell ?_ ?_ _; rotate_left; focus (first | omega | (simp <;> omega)))) | fail)))).mono ?_; rintro e w1 ⟨rfl, hb1⟩; have HB1 : Below w.heap.size w w1 := bl_call (by (repeat (first | with_reducible exact Below.refl _ _ | with_reducible assumption | with_reducible refine Below.drew ?_ | with_reducible refine bl_alloc ?_ _ | with_reducible refine bl_call ?_ (by assumption) | (focus (with_reducible refine Below.setCell ?_ ?_ _; rotate_left; focus (first | omega | (simp <;> omega)))) | fail))) hb1
       have kb := hide (Blk.below (g := w.heap.size) (t := 31) (cs := #[.slice (some ⟨b1, o1, none⟩) N c1, .slice A n c, .int .i64 d.left]) (Blk.new rfl) hb1 (by simp))
       have k0 := (unhide kb).cell 0; have k1 := (unhide kb).cell 1
       simp at k0 k1
       have z0 := (unhide kb).lt
       replace HB1 := hide HB1; clear hb1)
    | fail)
  clear k0 k1 z0
  go_loopw [15] (fun i wr => ∃ k : Nat, k ≤ n ∧ i = .int .i64 k ∧ Hid (∀ (j : Nat) (q : Pg), d.wet[j]? = some q → j < k → q.at_ ≠ at_) ∧ Hid (Blk wr w.heap.size 31 #[.slice (some ⟨b1, o1, none⟩) N c1, .slice A n c, .int .i64 d.left]) ∧ Hid (Below w.heap.size w wr)) (fun i _ => n - (intOf i).toNat)
  case atStart => exact ⟨0, Nat.zero_le _, rfl, hide (fun j q _ h => absurd h (Nat.not_lt_zero _)), kb, HB1⟩
  case round =>
    clear kb HB1
    obtain ⟨k, hk, rfl, hs, kb, hb⟩ := hrel
    have k0 := (unhide kb).cell 0; have k1 := (unhide kb).cell 1
    simp at k0 k1
    have z0 := (unhide kb).lt
    by_cases hlt : k < n
    · have hlt' : k < d.wet.length := by rw [← unhide hn]; exact hlt
      obtain ⟨b, off, rfl, q1, q2⟩ := unhide hA (by omega)
      obtain ⟨cs', hcs', hcc, bv, rfl, hbv⟩ := unhide hcell b off rfl k hlt'
      have c0 := ((unhide hb).cell (p := ⟨b, off + k * 2 + 0, none⟩) q2).trans (hcc 0 (by simp))
      have c1' := ((unhide hb).cell (p := ⟨b, off + k * 2 + 1, none⟩) q2).trans (hcc 1 (by simp))
      simp only [List.getElem_cons_zero, List.getElem_cons_succ, Nat.add_zero] at c0 c1'
      obtain ⟨p, hpe⟩ : ∃ p, d.wet[k] = p := ⟨_, rfl⟩
      have hpk : d.wet[k]? = some p := by rw [List.getElem?_eq_getElem hlt', hpe]
      rw [hpe] at c0 hbv
      obtain ⟨pa, pb, pc⟩ := (unhide hp) k p hpk
      obtain ⟨Ab, cb, e, _⟩ := id hbv
      subst e
      rw [pc] at c1' hbv
      have hsp := fun W (h : Below w.heap.size w W) => hbv.src.2.below h
      have hfd : p.at_ = at_ → X = p.b := fun e => by
        rw [unhide hX]; unfold sectorOf
        have : d.wet.find? (fun p => decide (p.at_ = at_)) = some p := by
          rw [List.find?_eq_some_iff_getElem]
          refine ⟨by simpa using e, k, hlt', hpe, fun j hj => ?_⟩
          have := unhide hs j _ (List.getElem?_eq_getElem (by omega)) hj
          simpa using this
        rw [this]
      have hsn : ¬ p.at_ = at_ → ∀ (j : Nat) (q : Pg), d.wet[j]? = some q → j < k + 1 → q.at_ ≠ at_ := fun e j q hq hj => by
        rcases Nat.lt_or_ge j k with h1 | h1
        · exact unhide hs j q hq h1
        · obtain rfl : j = k := by omega
          rw [hpk] at hq
          injection hq with hq
          subst hq
          exact e
      have i3 : (k : Int) < (n : Int) := by omega
      have i4 : (0 : Int) ≤ (k : Int) := by omega
      have i5' : IntKind.i64.wrap ((k : Int) + 1) = (k : Int) + 1 := IntWalk.i64_in _ (by omega)
      have hb0 := unhide hb
      have lb : b < wr.heap.size := Nat.lt_of_lt_of_le q2 hb0.size
      replace hpe := hide hpe; replace hpk := hide hpk; replace pc := hide pc; replace hsp := hide hsp; replace hfd := hide hfd; replace hsn := hide hsn
      clear hcc hcs' hbv
      generalize p.at_ = pat at *
      by_cases hat : pat = at_
      · have hXp := unhide hfd hat
        rw [← hXp] at hsp
        have tb : (pat == at_) = true := by simpa using hat
        replace hXp := hide hXp
        clear hfd hsn hat
        go_wp2_with (first
          | (at_builtin
             refine wpList_app _ rfl (.const (.slice none 0 0)) (.tmp 24) 28 rfl w.heap.size 5 i5 _ 1 1 Tryd.underlying28 hi5 iz0 iz1 iz2 rfl (Nat.succ_pos _) _ 0 [] rfl (World.ownsRow_nil _ _ _ _) Ab 32 cb (X.map u8v) rfl (unhide s1) (unhide hsp _ (by (repeat (first | with_reducible exact Below.refl _ _ | with_reducible assumption | with_reducible refine Below.drew ?_ | with_reducible refine bl_alloc ?_ _ | with_reducible refine bl_call ?_ (by assumption) | (focus (with_reducible refine Below.setCell ?_ ?_ _; rotate_left; focus (first | omega | (simp <;> omega)))) | fail)))) (unhide s2) (unhide s3) (unhide s4) (by have := hb0.size; first | exact this | (simp; omega)) ?_
             intro v4 w4 o4 g4
             rw [Nat.zero_add, List.nil_append] at o4
             obtain ⟨A4, c4, rfl⟩ := ownsRow_form o4
             have B4 : Below w.heap.size w w4 := bl_grown (by (repeat (first | with_reducible exact Below.refl _ _ | with_reducible assumption | with_reducible refine Below.drew ?_ | with_reducible refine bl_alloc ?_ _ | with_reducible refine bl_call ?_ (by assumption) | (focus (with_reducible refine Below.setCell ?_ ?_ _; rotate_left; focus (first | omega | (simp <;> omega)))) | fail))) g4 (fun k hk => by cases hk)
             replace B4 := hide B4; replace o4 := hide o4
             clear g4)
          | fail)
        go_ret2
        exact ⟨_, _, rfl, unhide o4, unhide B4⟩
      · have tb : (pat == at_) = false := by simpa using hat
        have hsn' := unhide hsn hat
        replace hsn' := hide hsn'
        clear hfd hsn hsp hat
        go_wp2_with fail
        clear i5' tb
        go_roundw
        case rel => exact ⟨k + 1, by omega, by go_num, hsn', hide ((unhide kb).alloc _), hide (bl_alloc hb0 _)⟩
        case measure => simp [intOf]; omega
    · have hno : ∀ (j : Nat) (q : Pg), d.wet[j]? = some q → q.at_ ≠ at_ := fun j q hq => unhide hs j q hq (by have := (List.getElem?_eq_some_iff.1 hq).1; have := unhide hn; omega)
      have hd9 := unhide hdry hno
      replace hd9 := hide hd9
      have hb0 := unhide hb
      clear hs hno
      go_wp2_with (first
        | (at_builtin
           refine wpList_app _ rfl (.const (.slice none 0 0)) (.tmp 34) 28 rfl w.heap.size 5 i5 _ 1 1 Tryd.underlying28 hi5 iz0 iz1 iz2 rfl (Nat.succ_pos _) _ 0 [] rfl (World.ownsRow_nil _ _ _ _) (some ⟨b1, o1 + a32, none⟩) 32 _ (X.map u8v) rfl (unhide s1) (unhide hd9 _ (by (repeat (first | with_reducible exact Below.refl _ _ | with_reducible assumption | with_reducible refine Below.drew ?_ | with_reducible refine bl_alloc ?_ _ | with_reducible refine bl_call ?_ (by assumption) | (focus (with_reducible refine Below.setCell ?_ ?_ _; rotate_left; focus (first | omega | (simp <;> omega)))) | fail)))) (unhide s2) (unhide s3) (unhide s4) (by have := hb0.size; first | exact this | (simp; omega)) ?_
           intro v4 w4 o4 g4
           rw [Nat.zero_add, List.nil_append] at o4
           obtain ⟨A4, c4, rfl⟩ := ownsRow_form o4
           have B4 : Below w.heap.size w w4 := bl_grown (by (repeat (first | with_reducible exact Below.refl _ _ | with_reducible assumption | with_reducible refine Below.drew ?_ | with_reducible refine bl_alloc ?_ _ | with_reducible refine bl_call ?_ (by assumption) | (focus (with_reducible refine Below.setCell ?_ ?_ _; rotate_left; focus (first | omega | (simp <;> omega)))) | fail))) g4 (fun k hk => by cases hk)
           replace B4 := hide B4; replace o4 := hide o4
           clear g4)
        | fail)
      go_ret2
      exact ⟨_, _, rfl, unhide o4, unhide B4⟩

theorem refread_any (lo : Nat) (v : Value) (d : Dk) (at_ : Int) (w : World) (h : Dsk lo w.heap.size w v d) (hL : d.dry.length ≤ 1000000) (hW : d.wet.length ≤ 1000) :
    Calls Tryd.prog 42 #[v, .int .i64 at_] w fun e w' => ∃ v' E, e = .returned (.tuple #[v', .int .i64 E]) ∧ Bs w.heap.size w'.heap.size w' v' (rdD d at_).1 ∧ E = (rdD d at_).2 ∧ Below w.heap.size w w' := by
  cases hq : okD d && hasB d.dry.length at_
  · refine (refread_bad lo v d at_ w h hq).mono ?_
    rintro e w' ⟨rfl, hb⟩
    have : rdD d at_ = ([], 1) := by simp [rdD, hq]
    rw [this]
    exact ⟨_, _, rfl, ⟨none, 0, rfl, by simp, by omega, fun h0 => by simp at h0⟩, rfl, hb⟩
  · have h' := hq
    rw [Bool.and_eq_true] at h'
    refine (refread_good lo v d at_ w h h'.1 h'.2 hL hW).mono ?_
    rintro e w' ⟨A, c, rfl, hx, hb⟩
    have : rdD d at_ = (sectorOf d at_, 0) := by simp [rdD, hq]
    rw [this]
    exact ⟨_, _, rfl, Bs.of_own hx, rfl, hb⟩
end Go.Proofs.YtommlgdolahfbaaDoor
