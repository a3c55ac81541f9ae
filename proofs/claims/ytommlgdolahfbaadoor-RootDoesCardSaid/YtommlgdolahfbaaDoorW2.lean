import Derived.Test.YtommlgdolahfbaaDoorProg
import Derived.Test.YtommlgdolahfbaaDoorBase
namespace Go.Proofs.YtommlgdolahfbaaDoor
set_option maxRecDepth 100000
open Go.RowKit

theorem info5 : (Tryd.prog.info? 5).map (fun i => (i.zero, i.size, i.bytes)) = some (some (.int .u8 0), 1, 1) := by kernel_rfl

set_option maxHeartbeats 400000 in
theorem bclone0 (lo : Nat) (v : Value) (l : List UInt8) (w : World) (h : Bs lo w.heap.size w v l) (hL : l.length ≤ 1000000) :
    Calls Tryd.prog 51 #[v] w fun e w' => ∃ v', e = .returned v' ∧ w'.ownsRow w.heap.size 5 1 v' l.length (l.map u8v) ∧ Below w.heap.size w w' := by
  obtain ⟨i0, hi0, hz0, hz1, hz2⟩ := info_parts info5
  have h' := h
  obtain ⟨A, c, rfl, h1, h2, h3⟩ := h'
  have hs := h.src
  clear h h3
  have q22 : ∀ (w : World) (a : Option Addr) (n c : Nat), (binOp .eql 28 (.slice a n c) (.slice none 0 0)).run Tryd.prog w = .ok (.bool a.isNone) w := fun w a n c => Lib.run_eql_slice_nil w _ _ a n c 0 0 Tryd.underlying28
  obtain ⟨xs, hxs⟩ : ∃ xs, xs = l.map u8v := ⟨_, rfl⟩
  have hxl : xs.length = l.length := by rw [hxs]; simp
  have hx1 : ∀ u ∈ xs, u.oneCell' = true := by rw [hxs]; exact u8s_one l
  rw [← hxs] at hs ⊢
  clear hxs
  generalize l.length = n at *
  have HS := hs.2
  have HX := Lib.hid hxl; have HX1 := Lib.hid hx1; clear hs hxl hx1
  have hb1 : 0 + n ≤ maxLen := by simp only [maxLen]; omega
  have hb2 : (0 + n) * 1 ≤ 140737488355328 := by omega
  rcases A with _ | ad
  · have hn0 : n = 0 := by
      rcases Nat.eq_zero_or_pos n with h0 | h0
      · exact h0
      · obtain ⟨ad, e, _⟩ := HS h0; cases e
    subst hn0
    obtain rfl : xs = [] := List.eq_nil_of_length_eq_zero HX.out
    go_enter Tryd.func51, Tryd.ntmps51
    go_wp2
    go_ret
    exact ⟨_, rfl, World.ownsRow_nil _ _ _ _, Below.refl _ _⟩
  · have hz : w.heap.size ≤ (w.alloc (.cells #[] 5)).heap.size := by simp
    have HZ := Lib.hid hz; clear hz
    go_enter Tryd.func51, Tryd.ntmps51
    go_wp2_with (first
      | (at_builtin
         refine wpList_app _ rfl (.tmp 5) (.tmp 6) 28 rfl w.heap.size 5 i0 _ 1 1 Tryd.underlying28 hi0 hz0 hz1 hz2 rfl (Nat.succ_pos _) _ 0 [] rfl (World.ownsRow_lit w #[] 0 (Nat.le_refl _) (Nat.zero_le _) rfl) (some ad) n c xs rfl (HX.out.trans (Nat.mul_one _).symm) (HS.below ((Below.refl _ _).alloc (Nat.le_refl _) _)) HX1.out hb1 hb2 HZ.out ?_
         intro v' w1 hown hg))
    go_ret
    refine ⟨_, rfl, by simpa using hown, ?_⟩
    refine bl_grown ((Below.refl _ _).alloc (Nat.le_refl _) _) hg ?_
    intro k hk
    simp [Act.eval, Value.ownBlock] at hk
    omega

theorem bclone (lo : Nat) (v : Value) (l : List UInt8) (w : World) (h : Bs lo w.heap.size w v l) (hL : l.length ≤ 1000000) :
    Calls Tryd.prog 51 #[v] w fun e w' => ∃ A' c', e = .returned (.slice A' l.length c') ∧ w'.ownsRow w.heap.size 5 1 (.slice A' l.length c') l.length (l.map u8v) ∧ Below w.heap.size w w' :=
  (bclone0 lo v l w h hL).mono fun e w' ⟨v', he, ho, hb⟩ => by
    obtain ⟨A', c', rfl⟩ := ownsRow_form ho
    exact ⟨A', c', he, ho, hb⟩

set_option maxHeartbeats 400000 in
theorem sector_any (b off n c k : Nat) (w : World) (hk : (k + 1) * 32 ≤ c) (hc : c ≤ 9223372036854775807) :
    Calls Tryd.prog 54 #[.slice (some ⟨b, off, none⟩) n c, .int .i64 k] w fun e w' => e = .returned (.slice (some ⟨b, off + k * 32, none⟩) 32 32) ∧ w = w' := by
  go_enter Tryd.func54, Tryd.ntmps54
  go_wp2
  go_ret
  exact ⟨ret_v (by show Value.slice _ _ _ = _; rw [show k * 32 + 32 - k * 32 = 32 by omega]), rfl⟩

theorem isNaN_any (x : Int) (w : World) : Calls Tryd.prog 66 #[.int .i64 x] w fun e w' => e = .returned (.bool false) ∧ w = w' := by
  go_enter Tryd.func66, Tryd.ntmps66
  go_wp2
  go_ret
  exact ⟨rfl, rfl⟩

/-- What cmp.Compare says. -/
def cmpI (x y : Int) : Int := if x < y then -1 else if y < x then 1 else 0
theorem cmp_any (x y : Int) (w : World) : Calls Tryd.prog 63 #[.int .i64 x, .int .i64 y] w fun e w' => e = .returned (.int .i64 (cmpI x y)) ∧ w = w' := by
  go_enter Tryd.func63, Tryd.ntmps63
  go_wp2_with (go_at_call 66; refine (isNaN_any _ _).mono ?_; rintro e w' ⟨rfl, rfl⟩)
  all_goals go_ret
  all_goals refine ⟨ret_i rfl ?_, rfl⟩
  all_goals (unfold cmpI; repeat' split) <;> first | rfl | omega

/-- Its number against another one: find's closure. -/
theorem find1_any (x at_ : Int) (bv : Value) (w : World) : Calls Tryd.prog 62 #[.agg #[.int .i64 x, bv], .int .i64 at_] w fun e w' => e = .returned (.int .i64 (cmpI x at_)) ∧ Below w.heap.size w w' := by
  go_enter Tryd.func62, Tryd.ntmps62
  go_wp2_with (go_at_call 63; refine (cmp_any _ _ _).mono ?_; rintro e w' ⟨rfl, rfl⟩)
  go_ret
  exact ⟨rfl, by (repeat (first | with_reducible exact Below.refl _ _ | with_reducible assumption | with_reducible refine Below.drew ?_ | with_reducible refine bl_alloc ?_ _ | with_reducible refine bl_call ?_ (by assumption) | (focus (with_reducible refine Below.setCell ?_ ?_ _; rotate_left; focus (first | omega | (simp <;> omega)))) | fail))⟩

/-- A place of a rising list of pages where all before it are below 'at_', and none from it on. -/
def Place (ps : List Pg) (at_ : Int) (i : Nat) : Prop := i ≤ ps.length ∧ (∀ j (h : j < ps.length), j < i → ps[j].at_ < at_) ∧ (∀ j (h : j < ps.length), i ≤ j → at_ ≤ ps[j].at_)
/-- The pages' numbers rise. -/
def Rises (ps : List Pg) : Prop := ∀ i j (hi : i < ps.length) (hj : j < ps.length), i < j → ps[i].at_ < ps[j].at_
/-- Is there a page of that number at the place? -/
def isAt (ps : List Pg) (at_ : Int) (i : Nat) : Bool := match ps[i]? with | some p => decide (p.at_ = at_) | none => false

set_option maxHeartbeats 400000 in
theorem bsearch_any (lo : Nat) (v : Value) (ps : List Pg) (at_ : Int) (w : World) (h : Pgs lo w.heap.size w v ps) (hr : Rises ps) (hL : ps.length ≤ 1000000) :
    Calls Tryd.prog 61 #[v, .int .i64 at_, .func (.func 62) #[] #[]] w fun e w' => ∃ i : Nat, e = .returned (.tuple #[.int .i64 i, .bool (isAt ps at_ i)]) ∧ Place ps at_ i ∧ Below w.heap.size w w' := by
  obtain ⟨A, c, rfl, hlc, hc, hA, hcell⟩ := h
  have HR := Lib.hid hr; clear hr
  go_enter Tryd.func61, Tryd.ntmps61
  go_wp2
  go_loopw [9, 10] (fun l r wr => ∃ (i j : Nat), i ≤ j ∧ j ≤ ps.length ∧ l = .int .i64 i ∧ r = .int .i64 j ∧ Hid (∀ k (h : k < ps.length), k < i → ps[k].at_ < at_) ∧ Hid (∀ k (h : k < ps.length), j ≤ k → at_ ≤ ps[k].at_) ∧ Below w.heap.size w wr) (fun l r _ => (intOf r - intOf l).toNat)
  case atStart => exact ⟨0, ps.length, Nat.zero_le _, Nat.le_refl _, rfl, rfl, fun k _ hk => by omega, fun k hk1 hk2 => by omega, Below.refl _ _⟩
  case round =>
    obtain ⟨i, j, hij, hj, rfl, rfl, H1, H2, hb⟩ := hrel
    by_cases hlt : i < j
    · obtain ⟨b, off, rfl, hb1, hb2⟩ := hA (by omega)
      obtain ⟨m, hm⟩ : ∃ m, m = (i + j) / 2 := ⟨_, rfl⟩
      obtain ⟨cs, hcs, hcc, bv, rfl, hbv⟩ := hcell b off rfl m (by omega)
      have c0 := (hb.cell (p := ⟨b, off + m * 2 + 0, none⟩) hb2).trans (hcc 0 (by simp))
      have c1 := (hb.cell (p := ⟨b, off + m * 2 + 1, none⟩) hb2).trans (hcc 1 (by simp))
      simp at c0 c1
      clear hcc hcell hA hbv hcs
      subst hm
      go_wp2_with (go_at_call 62; refine (find1_any _ _ _ _).mono ?_; rintro e w1 ⟨rfl, hb1⟩)
      · go_roundw
        case rel =>
          refine ⟨(i + j) / 2 + 1, j, by omega, hj, by go_num, rfl, fun k hk1 hk2 => ?_, H2, by (repeat (first | with_reducible exact Below.refl _ _ | with_reducible assumption | with_reducible refine Below.drew ?_ | with_reducible refine bl_alloc ?_ _ | with_reducible refine bl_call ?_ (by assumption) | (focus (with_reducible refine Below.setCell ?_ ?_ _; rotate_left; focus (first | omega | (simp <;> omega)))) | fail))⟩
          have hle : ps[k].at_ ≤ ps[(i + j) / 2].at_ := by
            rcases Nat.lt_or_ge k ((i + j) / 2) with h1 | h1
            · exact Int.le_of_lt (HR.out k _ hk1 (by omega) h1)
            · have : k = (i + j) / 2 := by omega
              subst this; exact Int.le_refl _
          have hc : cmpI ps[(i + j) / 2].at_ at_ < 0 := by assumption
          unfold cmpI at hc
          split at hc
          · omega
          · split at hc <;> omega
        case measure => simp [intOf]; omega
      · go_roundw
        case rel =>
          refine ⟨i, (i + j) / 2, by omega, by omega, rfl, by go_num, H1, fun k hk1 hk2 => ?_, by (repeat (first | with_reducible exact Below.refl _ _ | with_reducible assumption | with_reducible refine Below.drew ?_ | with_reducible refine bl_alloc ?_ _ | with_reducible refine bl_call ?_ (by assumption) | (focus (with_reducible refine Below.setCell ?_ ?_ _; rotate_left; focus (first | omega | (simp <;> omega)))) | fail))⟩
          have hle : ps[(i + j) / 2].at_ ≤ ps[k].at_ := by
            rcases Nat.lt_or_ge ((i + j) / 2) k with h1 | h1
            · exact Int.le_of_lt (HR.out _ k (by omega) hk1 h1)
            · have : k = (i + j) / 2 := by omega
              subst this; exact Int.le_refl _
          have hc : 0 ≤ cmpI ps[(i + j) / 2].at_ at_ := by assumption
          unfold cmpI at hc
          split at hc
          · omega
          · omega
        case measure => simp [intOf]; omega
    · obtain rfl : i = j := by omega
      have HP : Hid (Place ps at_ i) := ⟨hj, fun k hk1 hk2 => H1.out k hk1 hk2, fun k hk1 hk2 => H2.out k hk1 hk2⟩
      clear H1 H2
      by_cases hin : i < ps.length
      · obtain ⟨b, off, rfl, hb1, hb2⟩ := hA (by omega)
        obtain ⟨cs, hcs, hcc, bv, rfl, hbv⟩ := hcell b off rfl i (by omega)
        have c0 := (hb.cell (p := ⟨b, off + i * 2 + 0, none⟩) hb2).trans (hcc 0 (by simp))
        have c1 := (hb.cell (p := ⟨b, off + i * 2 + 1, none⟩) hb2).trans (hcc 1 (by simp))
        simp at c0 c1
        clear hcc hcell hA hbv hcs
        have ha : isAt ps at_ i = (cmpI ps[i].at_ at_ == 0) := by
          unfold isAt cmpI
          rw [List.getElem?_eq_getElem hin]
          simp only []
          rw [Bool.eq_iff_iff]
          simp
          split
          · omega
          · split <;> omega
        have HA := Lib.hid ha; clear ha
        go_wp2_with (go_at_call 62; refine (find1_any _ _ _ _).mono ?_; rintro e w1 ⟨rfl, hb1⟩)
        go_ret2
        exact ⟨i, ret_v (by rw [HA.out]; rfl), HP.out, by (repeat (first | with_reducible exact Below.refl _ _ | with_reducible assumption | with_reducible refine Below.drew ?_ | with_reducible refine bl_alloc ?_ _ | with_reducible refine bl_call ?_ (by assumption) | (focus (with_reducible refine Below.setCell ?_ ?_ _; rotate_left; focus (first | omega | (simp <;> omega)))) | fail))⟩
      · have ha : isAt ps at_ i = false := by
          unfold isAt
          rw [List.getElem?_eq_none (by omega)]
        have HA := Lib.hid ha; clear ha
        clear hcell hA
        go_wp2
        go_ret2
        exact ⟨i, ret_v (by rw [HA.out]; rfl), HP.out, by (repeat (first | with_reducible exact Below.refl _ _ | with_reducible assumption | with_reducible refine Below.drew ?_ | with_reducible refine bl_alloc ?_ _ | with_reducible refine bl_call ?_ (by assumption) | (focus (with_reducible refine Below.setCell ?_ ?_ _; rotate_left; focus (first | omega | (simp <;> omega)))) | fail))⟩

theorem find_any (lo : Nat) (v : Value) (ps : List Pg) (at_ : Int) (w : World) (h : Pgs lo w.heap.size w v ps) (hr : Rises ps) (hL : ps.length ≤ 1000000) :
    Calls Tryd.prog 49 #[v, .int .i64 at_] w fun e w' => ∃ i : Nat, e = .returned (.tuple #[.int .i64 i, .bool (isAt ps at_ i)]) ∧ Place ps at_ i ∧ Below w.heap.size w w' := by
  have hb := bsearch_any lo v ps at_ w h hr hL
  have HB := hide hb; clear hb hr h
  go_enter Tryd.func49, Tryd.ntmps49
  go_wp2_with (go_at_call 61; refine (unhide HB).mono ?_; rintro e w1 ⟨i, rfl, hp, hb1⟩)
  go_ret2
  exact ⟨i, rfl, hp, hb1⟩
end Go.Proofs.YtommlgdolahfbaaDoor
