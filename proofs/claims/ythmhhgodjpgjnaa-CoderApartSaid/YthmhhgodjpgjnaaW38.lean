import Derived.Test.YthmhhgodjpgjnaaW37
namespace Go.Proofs.Ythmhhgodjpgjnaa
open Go.RowKit

theorem bit_ext {x y : Bit} (h1 : x.at_ = y.at_) (h2 : x.b = y.b) : x = y := by
  cases x; cases y; simp_all
theorem map_eq_iff {α β : Type} {f : α → β} {l m : List α} (hl : l.length = m.length) : l.map f = m.map f ↔ ∀ j (h : j < l.length) (h' : j < m.length), f l[j] = f m[j] := by
  constructor
  · intro h j hj hj'
    have : (l.map f)[j]'(by simpa using hj) = (m.map f)[j]'(by simpa using hj') := by simp only [h]
    simpa using this
  · intro h
    refine List.ext_getElem (by simpa using hl) fun j h1 h2 => ?_
    simpa using h j (by simpa using h1) (by simpa using h2)
theorem apart_iff {n : Int} {l m : List Bit} (he : encE n l = 0) (hl : l.length = m.length) (ha : l.map Bit.at_ = m.map Bit.at_) : (encT n l = encT n m) ↔ (l.map Bit.b = m.map Bit.b) := by
  have he' : encE n m = 0 := by rw [← encE_ats ha]; exact he
  constructor
  · exact apart_all he he' ha
  · intro hb
    have : l = m := List.ext_getElem hl fun j h1 h2 => bit_ext ((map_eq_iff hl).1 ha j h1 h2) ((map_eq_iff hl).1 hb j h1 h2)
    rw [this]

set_option maxHeartbeats 1000000 in
theorem apart_gate (n : Int) (v1 v2 : Value) (l m : List Bit) (lo lo' : Nat) (w : World) (h1 : Bts lo w.heap.size w v1 l) (h2 : Bts lo' w.heap.size w v2 m) (hg : 200 < l.length ∨ l.length ≠ m.length ∨ 60 < n) :
    Calls Try.prog 8 #[.int .i64 n, v1, v2] w fun e w' => e = .returned (.bool true) ∧ Below w.heap.size w w' := by
  obtain ⟨A, c, rfl, x1, x2, _⟩ := h1.open
  obtain ⟨B, d, rfl, y1, y2, _⟩ := h2.open
  clear h1 h2
  by_cases a1 : 200 < l.length
  · have b1 : (200 : Int) < (l.length : Int) := by omega
    clear hg a1
    go_enter Try.func8, Try.ntmps8
    go_wp2_with (first
      | (go_at_call 9; refine (live_any _).mono ?_; rintro e w1 ⟨rfl, hb1⟩)
      | fail)
    go_ret
    exact ⟨rfl, by (repeat (first | with_reducible exact Below.refl _ _ | with_reducible assumption | with_reducible refine Below.drew ?_ | with_reducible refine bl_alloc ?_ _ | with_reducible refine bl_call ?_ (by assumption) | (focus (with_reducible refine Below.setCell ?_ ?_ _; rotate_left; focus (first | omega | (simp <;> omega)))) | fail))⟩
  · have b1 : ¬ (200 : Int) < (l.length : Int) := by omega
    by_cases a2 : l.length = m.length
    · have b2 : ((l.length : Int) != (m.length : Int)) = false := by rw [a2]; simp
      have a3 : 60 < n := by omega
      clear hg a1
      rw [← a2] at b2 ⊢
      clear a2
      go_enter Try.func8, Try.ntmps8
      go_wp2_with (first
        | (go_at_call 9; refine (live_any _).mono ?_; rintro e w1 ⟨rfl, hb1⟩)
        | fail)
      go_ret
      exact ⟨rfl, by (repeat (first | with_reducible exact Below.refl _ _ | with_reducible assumption | with_reducible refine Below.drew ?_ | with_reducible refine bl_alloc ?_ _ | with_reducible refine bl_call ?_ (by assumption) | (focus (with_reducible refine Below.setCell ?_ ?_ _; rotate_left; focus (first | omega | (simp <;> omega)))) | fail))⟩
    · have b2 : ((l.length : Int) != (m.length : Int)) = true := by simp; omega
      have b3 : ¬ (l.length : Int) = (m.length : Int) := by omega
      clear hg a1 a2
      go_enter Try.func8, Try.ntmps8
      go_wp2_with (first
        | (go_at_call 9; refine (live_any _).mono ?_; rintro e w1 ⟨rfl, hb1⟩)
        | fail)
      go_ret
      exact ⟨rfl, by (repeat (first | with_reducible exact Below.refl _ _ | with_reducible assumption | with_reducible refine Below.drew ?_ | with_reducible refine bl_alloc ?_ _ | with_reducible refine bl_call ?_ (by assumption) | (focus (with_reducible refine Below.setCell ?_ ?_ _; rotate_left; focus (first | omega | (simp <;> omega)))) | fail))⟩

set_option maxHeartbeats 1000000 in
theorem apart_main (n : Int) (v1 v2 : Value) (l m : List Bit) (lo lo' : Nat) (w : World) (h1 : Bts lo w.heap.size w v1 l) (h2 : Bts lo' w.heap.size w v2 m) (hl : l.length ≤ 200) (hlm : l.length = m.length) (hn : n ≤ 60) :
    Calls Try.prog 8 #[.int .i64 n, v1, v2] w fun e w' => e = .returned (.bool true) ∧ Below w.heap.size w w' := by
  have hE1 := fun W (hb : Below w.heap.size w W) => Encode_any n lo v1 l W (h1.grow hb) (by omega)
  have hE2 := fun W (hb : Below w.heap.size w W) => Encode_any n lo' v2 m W (h2.grow hb) (by omega)
  obtain ⟨A, c, rfl, x1, x2, x3⟩ := h1.open
  obtain ⟨B, d, rfl, y1, y2, y3⟩ := h2.open
  clear h1 h2
  have hiff := fun he => apart_iff (n := n) (l := l) (m := m) he hlm
  have hsame := fun ha => encE_ats (n := n) (xs := l) (ys := m) ha
  have hob := fun he => encT_okB (n := n) (bs := l) he
  have hob' := fun he => encT_okB (n := n) (bs := m) he
  have hmat := map_eq_iff (f := Bit.at_) hlm
  have hmb := map_eq_iff (f := Bit.b) hlm
  have b1 : ¬ (200 : Int) < (l.length : Int) := by omega
  have b2 : ((l.length : Int) != (m.length : Int)) = false := by rw [hlm]; simp
  rw [← hlm] at b2 hE2 ⊢
  have b3 : ¬ 60 < n := by omega
  replace hE1 := hide hE1; replace hE2 := hide hE2; replace x3 := hide x3; replace y3 := hide y3; replace hiff := hide hiff; replace hsame := hide hsame; replace hob := hide hob; replace hob' := hide hob'; replace hlm := hide hlm
  replace hmat := hide hmat; replace hmb := hide hmb
  go_enter Try.func8, Try.ntmps8
  go_wp2_with (first
    | (go_at_call 9; refine (live_any _).mono ?_; rintro e w1 ⟨rfl, hb1⟩)
    | fail)
  replace hb1 := hide hb1
  clear b2 b3
  go_loopw [8, 32] (fun s i wr => ∃ (k : Nat) (sm : Bool), k ≤ l.length ∧ i = .int .i64 k ∧ s = .bool sm ∧ Hid (sm = true ↔ ∀ j (h : j < l.length) (h' : j < m.length), j < k → l[j].b = m[j].b) ∧ Hid (∀ j (h : j < l.length) (h' : j < m.length), j < k → l[j].at_ = m[j].at_) ∧ Hid (Below w.heap.size w wr)) (fun _ i _ => l.length - (intOf i).toNat)
  case atStart => exact ⟨0, true, Nat.zero_le _, rfl, rfl, hide ⟨fun _ j _ _ h => absurd h (Nat.not_lt_zero _), fun _ => rfl⟩, hide (fun j _ _ h => absurd h (Nat.not_lt_zero _)), hb1⟩
  case round =>
    obtain ⟨k, sm, hk, rfl, rfl, hsm, hat, hB⟩ := hrel
    clear hb1
    by_cases hlt : k < l.length
    · have hlt' : k < m.length := by have := unhide hlm; omega
      obtain ⟨b, off, rfl, g1, g2, q0, q1⟩ := unhide x3 k hlt
      obtain ⟨b', off', rfl, g3, g4, p0, p1⟩ := unhide y3 k hlt'
      have c0 := ((unhide hB).cell (p := ⟨b, off + k * 2, none⟩) g2).trans q0
      have c1 := ((unhide hB).cell (p := ⟨b, off + k * 2 + 1, none⟩) g2).trans q1
      have d0 := ((unhide hB).cell (p := ⟨b', off' + k * 2, none⟩) g4).trans p0
      have d1 := ((unhide hB).cell (p := ⟨b', off' + k * 2 + 1, none⟩) g4).trans p1
      have z1 : b < wr.heap.size := World.block_lt_of_cell? wr _ c0
      have z2 : b' < wr.heap.size := World.block_lt_of_cell? wr _ d0
      have i3 : IntKind.i64.wrap ((k : Int) + 1) = (k : Int) + 1 := IntWalk.i64_in _ (by omega)
      have hsm' : Hid ((sm && (l[k].b == m[k].b)) = true ↔ ∀ j (h : j < l.length) (h' : j < m.length), j < k + 1 → l[j].b = m[j].b) := hide (by
        rw [Bool.and_eq_true, unhide hsm, beq_iff_eq]
        constructor
        · rintro ⟨h1, h2⟩ j hj hj' hjk
          rcases Nat.lt_or_ge j k with h3 | h3
          · exact h1 j hj hj' h3
          · obtain rfl : j = k := by omega
            exact h2
        · intro h1
          exact ⟨fun j hj hj' hjk => h1 j hj hj' (by omega), h1 k hlt hlt' (by omega)⟩)
      have hat' : Hid (l[k].at_ = m[k].at_ → ∀ j (h : j < l.length) (h' : j < m.length), j < k + 1 → l[j].at_ = m[j].at_) := hide (fun e j hj hj' hjk => by
        rcases Nat.lt_or_ge j k with h3 | h3
        · exact unhide hat j hj hj' h3
        · obtain rfl : j = k := by omega
          exact e)
      generalize l[k].at_ = sa at *
      generalize l[k].b = sb at *
      generalize m[k].at_ = ta at *
      generalize m[k].b = tb at *
      clear q0 q1 p0 p1 hsm hat hlt'
      by_cases he : sa = ta
      · subst he
        have hat2 := (unhide hat') rfl
        replace hat2 := hide hat2
        clear hat'
        go_wp2_with fail
        go_quiet (fail)
        cases sm
        · go_wp2_with fail
          go_quiet (fail)
          go_wp2_with fail
          clear i3
          go_roundw
          case rel => exact ⟨k + 1, _, by omega, by go_num, rfl, by simpa using hsm', hat2, hide (below_drewN (unhide hB) _)⟩
          case measure => simp [intOf]; omega
        · go_wp2_with fail
          go_quiet (fail)
          go_wp2_with fail
          clear i3
          go_roundw
          case rel => exact ⟨k + 1, sb == tb, by omega, by go_num, rfl, by simpa using hsm', hat2, hide (below_drewN (unhide hB) _)⟩
          case measure => simp [intOf]; omega
      · have hd : (sa == ta) = false := by simpa using he
        have hd2 : (sa != ta) = true := by simp [bne, hd]
        clear he hat' hsm'
        go_wp2_with fail
        go_quiet (fail)
        go_wp2_with fail
        go_ret
        exact ⟨rfl, below_drewN (unhide hB) _⟩
    · obtain rfl : k = l.length := by omega
      have hA := (unhide hmat).2 fun j hj hj' => unhide hat j hj hj' hj
      have hS : sm = true ↔ l.map Bit.b = m.map Bit.b := (unhide hsm).trans ⟨fun h => (unhide hmb).2 fun j hj hj' => h j hj hj' hj, fun h j hj hj' _ => (unhide hmb).1 h j hj hj'⟩
      have e1 := unhide hsame hA
      have hE3 := unhide hE2
      rw [← e1] at hE3
      have hI : encE n l = 0 → (decide (encT n l = encT n m) == sm) = true := fun he => by
        have h1 := unhide hiff he hA
        rw [beq_iff_eq, Bool.eq_iff_iff, decide_eq_true_eq, h1, hS]
      have ho1 := unhide hob
      have ho2 : encE n l = 0 → okB (encT n m) := fun he => unhide hob' (by rw [← e1]; exact he)
      clear hE2 hiff hsame hob hob' hmat hmb hsm hat hS hA x3 y3
      replace hE3 := hide hE3
      generalize encT n l = T1 at *
      generalize encT n m = T2 at *
      clear e1
      generalize encE n l = E at *
      by_cases hE0 : E = 0
      · have hI' := hI hE0
        have ho1' := ho1 hE0
        have ho2' := ho2 hE0
        subst hE0
        have hsb := fun W lo hi lo' hi' v1 v2 h1 h2 => sameBytes_any lo hi lo' hi' v1 v2 T1 T2 W h1 h2 ho1' ho2'
        replace hsb := hide hsb; replace hI' := hide hI'
        clear hI ho1 ho2 ho1' ho2'
        have hB0 := unhide hB
        have tok1 : True := trivial
        go_wp2_with (first
          | (go_at_call 10
             first
               | (have _t := tok1; clear tok1 _t; refine (unhide hE1 _ hB0).mono ?_; rintro e w3 ⟨A3, c3, rfl, o3, hb3⟩; have hB3 : Below w.heap.size w w3 := bl_call hB0 hb3; replace o3 := hide o3)
               | (refine (unhide hE3 _ hB3).mono ?_; rintro e w4 ⟨A4, c4, rfl, o4, hb4⟩; have hB4 : Below w.heap.size w w4 := bl_call hB3 hb4; have o3' := own_below (unhide o3) hb4 (Nat.le_refl _); replace o4 := hide o4; replace o3' := hide o3'))
          | (go_at_call 14; refine (unhide hsb _ _ _ _ _ _ _ (Os.own (unhide o3')) (Os.own (unhide o4))).mono ?_; rintro e w5 ⟨rfl, rfl⟩)
          | fail)
        go_ret
        exact ⟨ret_b rfl (by simpa using unhide hI'), by assumption⟩
      · have hE1' : (E != 0) = true := by simpa using hE0
        have hE2' : (E == 0) = false := by simpa using hE0
        clear hE0 hI ho1 ho2
        have hB0 := unhide hB
        have tok1 : True := trivial
        go_wp2_with (first
          | (go_at_call 10
             first
               | (have _t := tok1; clear tok1 _t; refine (unhide hE1 _ hB0).mono ?_; rintro e w3 ⟨A3, c3, rfl, o3, hb3⟩; have hB3 : Below w.heap.size w w3 := bl_call hB0 hb3; replace o3 := hide o3)
               | (refine (unhide hE3 _ hB3).mono ?_; rintro e w4 ⟨A4, c4, rfl, o4, hb4⟩; have hB4 : Below w.heap.size w w4 := bl_call hB3 hb4; replace o4 := hide o4))
          | fail)
        go_ret
        exact ⟨rfl, by assumption⟩
end Go.Proofs.Ythmhhgodjpgjnaa
