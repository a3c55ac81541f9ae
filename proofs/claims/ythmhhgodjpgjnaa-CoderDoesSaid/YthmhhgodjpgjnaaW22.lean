import Derived.Test.YthmhhgodjpgjnaaW21
namespace Go.Proofs.Ythmhhgodjpgjnaa
open Go.RowKit

def byc (z : Int) : List Value := [.int .u8 z]
theorem byc_len : ∀ x, (byc x).length = 1 := fun _ => rfl
theorem byc_at (l : List Int) (k : Nat) (hk : k < l.length) : (l.flatMap byc)[k]? = some (.int .u8 l[k]) := by
  have := flat_get byc_len l k hk 0 (by omega)
  simpa [byc] using this
theorem byc_set (l : List Int) (k : Nat) (z : Int) : (l.flatMap byc).set k (.int .u8 z) = (l.set k z).flatMap byc := by
  induction l generalizing k with
  | nil => rfl
  | cons x r ih =>
    cases k with
    | zero => rfl
    | succ k => rw [List.set_cons_succ, List.flatMap_cons, List.flatMap_cons, ← ih]; rfl
theorem incR_rep (z : Nat) (r : List Int) : incR (List.replicate z 255 ++ r) = List.replicate z 0 ++ incR r := by
  induction z with
  | zero => rfl
  | succ z ih => rw [List.replicate_succ, List.cons_append, incR, if_pos rfl, ih, List.replicate_succ, List.cons_append]
theorem inc_at (p : List Int) (x : Int) (z : Nat) (hx : x ≠ 255) : inc (p ++ x :: List.replicate z 255) = p ++ (x + 1) :: List.replicate z 0 := by
  unfold inc
  rw [List.reverse_append, List.reverse_cons, List.reverse_replicate, List.append_assoc, incR_rep, List.singleton_append, incR, if_neg hx]
  simp
theorem inc_all (z : Nat) : inc (List.replicate z 255) = List.replicate z 0 := by
  have := incR_rep z []
  rw [List.append_nil] at this
  unfold inc
  rw [List.reverse_replicate, this]
  simp [incR]
/-- The text while the carry is at the place 'j': what is behind it is 0 already. -/
def car (l : List Int) (j : Nat) : List Int := l.take j ++ List.replicate (l.length - j) 0
theorem car_len {l : List Int} {j : Nat} (h : j ≤ l.length) : (car l j).length = l.length := by simp [car]; omega
theorem car_top (l : List Int) : car l l.length = l := by simp [car]
theorem car_get {l : List Int} {j : Nat} (h : j < l.length) : (car l (j + 1))[j]'(by rw [car_len (by omega)]; exact h) = l[j] := by
  unfold car
  rw [List.getElem_append_left (by simp; omega), List.getElem_take]
theorem car_set {l : List Int} {j : Nat} (h : j < l.length) : (car l (j + 1)).set j 0 = car l j := by
  unfold car
  rw [List.take_succ_eq_append_getElem h, List.append_assoc, List.set_append_right _ _ (by simp; omega)]
  simp only [List.length_take, Nat.min_eq_left (Nat.le_of_lt h), Nat.sub_self, List.singleton_append, List.set_cons_zero]
  rw [← List.replicate_succ, show l.length - (j + 1) + 1 = l.length - j by omega]
theorem car_inc {l : List Int} {j : Nat} (h : j < l.length) (h5 : l.drop (j + 1) = List.replicate (l.length - (j + 1)) 255) (hx : l[j] ≠ 255) : (car l (j + 1)).set j (l[j] + 1) = inc l := by
  have e : l = l.take j ++ l[j] :: List.replicate (l.length - (j + 1)) 255 := by
    rw [← h5, ← List.drop_eq_getElem_cons h, List.take_append_drop]
  have e2 : inc l = l.take j ++ (l[j] + 1) :: List.replicate (l.length - (j + 1)) 0 := by
    conv => lhs; rw [e]
    exact inc_at _ _ _ hx
  rw [e2]
  unfold car
  rw [List.take_succ_eq_append_getElem h, List.append_assoc, List.set_append_right _ _ (by simp; omega)]
  simp only [List.length_take, Nat.min_eq_left (Nat.le_of_lt h), Nat.sub_self, List.singleton_append, List.set_cons_zero]
theorem car_zero {l : List Int} (h5 : l.drop 0 = List.replicate (l.length - 0) 255) : car l 0 = inc l := by
  rw [List.drop_zero, Nat.sub_zero] at h5
  have : inc l = List.replicate l.length 0 := by
    conv => lhs; rw [h5]
    exact inc_all _
  rw [this]
  simp [car]
theorem car_next {l : List Int} {j : Nat} (h : j < l.length) (h5 : l.drop (j + 1) = List.replicate (l.length - (j + 1)) 255) (hx : l[j] = 255) : l.drop j = List.replicate (l.length - j) 255 := by
  rw [List.drop_eq_getElem_cons h, h5, hx, ← List.replicate_succ, show l.length - (j + 1) + 1 = l.length - j by omega]
theorem wrap8 {x : Int} (h : 0 ≤ x ∧ x < 256) : IntKind.u8.wrap (x + 1) = if x = 255 then 0 else x + 1 := by
  split
  · rename_i e; subst e; decide
  · exact IntWalk.u8_in _ (by omega)

set_option maxHeartbeats 1000000 in
/-- The reference's 'more': one more. -/
theorem more_any (gt cap base : Nat) (l : List Int) (w : World) (ho : w.ownsRow base 5 1 (.slice (some ⟨gt, 0, none⟩) l.length cap) l.length (l.flatMap byc)) (hB : okB l) (hl : l.length ≤ 9223372036854775807) :
    Calls Try.prog 30 #[.slice (some ⟨gt, 0, none⟩) l.length cap] w fun e w' => e = .returned (.tuple #[]) ∧ w'.ownsRow base 5 1 (.slice (some ⟨gt, 0, none⟩) l.length cap) l.length ((inc l).flatMap byc) ∧ But [gt] w w' := by
  have i0 : IntKind.i64.wrap ((l.length : Int) - 1) = (l.length : Int) - 1 := IntWalk.i64_in _ (by omega)
  replace ho := hide ho
  go_enter Try.func30, Try.ntmps30
  go_wp2_with fail
  clear i0
  go_loopw [2] (fun i wr => ∃ (j : Nat), j ≤ l.length ∧ i = .int .i64 ((j : Int) - 1) ∧ Hid (l.drop j = List.replicate (l.length - j) 255) ∧ Hid (wr.ownsRow base 5 1 (.slice (some ⟨gt, 0, none⟩) l.length cap) l.length ((car l j).flatMap byc)) ∧ Hid (But [gt] w wr)) (fun i _ => (intOf i + 1).toNat)
  case atStart => exact ⟨l.length, Nat.le_refl _, rfl, hide (by simp), hide (by rw [car_top]; exact unhide ho), hide (But.refl _ _)⟩
  case round =>
    obtain ⟨j, hj, rfl, h5, ho1, hb⟩ := hrel
    cases j with
    | zero =>
      have e1 := car_zero (unhide h5)
      have ho2 := unhide ho1
      rw [e1] at ho2
      replace ho2 := hide ho2
      clear ho ho1 e1 h5
      go_wp2_with fail
      refine bodyPost_end (results_none rfl _ _ _) rfl ?_
      exact ⟨rfl, unhide ho2, unhide hb⟩
    | succ j =>
      have hjl : j < l.length := by omega
      obtain ⟨g0, cur, e0, hb0, hK⟩ := own_pos (unhide ho1) (by omega)
      injection e0 with e0
      injection e0 with e0
      subst e0
      have hx := (own_cell (unhide ho1) j hjl).trans (byc_at _ j (by rw [car_len (by omega)]; exact hjl))
      rw [car_get hjl] at hx
      have hf := hK.frozen j
      have hx8 := hB l[j] (List.getElem_mem _)
      have hwr := wrap8 hx8
      have j0 : IntKind.i64.wrap ((j : Int) - 1) = (j : Int) - 1 := IntWalk.i64_in _ (by omega)
      have j1 : ((j + 1 : Nat) : Int) - 1 = (j : Int) := by omega
      have j2 : (0 : Int) ≤ (j : Int) := by omega
      have j3 : (j : Int) < (l.length : Int) := by omega
      rw [j1]
      by_cases h255 : l[j] = 255
      · have ho2 := own_put (k := j) (unhide ho1) (.int .u8 0)
        rw [byc_set, car_set hjl] at ho2
        have h5' := car_next hjl (unhide h5) h255
        rw [h255] at hx hwr
        simp only [if_true] at hwr
        have hb2 := (unhide hb).set (p := ⟨gt, j, none⟩) (by simp) (.int .u8 0)
        replace ho2 := hide ho2; replace h5' := hide h5'; replace hb2 := hide hb2
        clear ho ho1 h5 hb hK h255 hx8
        go_wp2_with fail
        clear j0 hwr
        go_roundw
        case rel => exact ⟨j, by omega, rfl, h5', ho2, hb2⟩
        case measure => simp [intOf]
      · have ho2 := own_put (k := j) (unhide ho1) (.int .u8 (l[j] + 1))
        rw [byc_set, car_inc hjl (unhide h5) h255] at ho2
        rw [if_neg h255] at hwr
        have hne : (l[j] + 1 == 0) = false := by simp; omega
        have hne' : (l[j] + 1 != 0) = true := by simp; omega
        have hb2 := (unhide hb).set (p := ⟨gt, j, none⟩) (by simp) (.int .u8 (l[j] + 1))
        replace ho2 := hide ho2; replace hb2 := hide hb2
        clear ho ho1 h5 hb hK h255 hx8
        generalize l[j] = x at *
        go_wp2_with fail
        refine bodyPost_ret (results_none rfl _ _ _) rfl ?_
        exact ⟨rfl, unhide ho2, unhide hb2⟩

set_option maxHeartbeats 1000000 in
/-- 'add'. -/
theorem add_any (g gt cap base : Nat) (s low p : Int) (cv : Value) (l : List Int) (w : World) (hK : Blk w g 64 #[.int .u32 s, cv, .slice (some ⟨gt, 0, none⟩) l.length cap, .int .u32 low])
    (ho : w.ownsRow base 5 1 (.slice (some ⟨gt, 0, none⟩) l.length cap) l.length (l.flatMap byc)) (hB : okB l) (hl : l.length ≤ 9223372036854775807) (h1 : 0 ≤ low ∧ low < 4294967296) (h2 : 0 ≤ p ∧ p < 4294967296) :
    Calls Try.prog 39 #[.pointer (some ⟨g, 0, none⟩), .int .u32 p] w fun e w' => e = .returned (.tuple #[]) ∧ Blk w' g 64 #[.int .u32 s, cv, .slice (some ⟨gt, 0, none⟩) l.length cap, .int .u32 ((low + p) % 4294967296)] ∧
      w'.ownsRow base 5 1 (.slice (some ⟨gt, 0, none⟩) l.length cap) l.length ((if 4294967296 ≤ low + p then inc l else l).flatMap byc) ∧ But [g, gt] w w' := by
  have hw : IntKind.u32.wrap (low + p) = (low + p) % 4294967296 := IntKind.wrap_u32 _
  have c0 := hK.cell 2
  have c1 := hK.cell 3
  have c2 := hK.frozen 3
  simp at c0 c1
  have K1 := hK.set 3 (.int .u32 ((low + p) % 4294967296))
  simp at K1
  have ho1 := own_far ho hK (by decide) 3 (.int .u32 ((low + p) % 4294967296))
  have hb1 := (But.refl [g, gt] w).set (p := ⟨g, 3, none⟩) (by simp) (.int .u32 ((low + p) % 4294967296))
  by_cases hc : 4294967296 ≤ low + p
  · rw [if_pos hc]
    have hlt : (low + p) % 4294967296 < p := by omega
    generalize (low + p) % 4294967296 = z at *
    have i0 : IntKind.i64.wrap ((l.length : Int) - 1) = (l.length : Int) - 1 := IntWalk.i64_in _ (by omega)
    have hd : decide (p ≤ z) = false := by simp; omega
    have hgt : g ≠ gt := by
      rintro rfl
      rcases ho.2 with ⟨e, _⟩ | ⟨g', _, cur, e, _, hh, _⟩
      · cases e
      · injection e with e
        injection e with e
        injection e with e
        subst e
        exact (Blk.ne_ (t := 5) (cs := cur) hh hK (by decide)) rfl
    replace K1 := hide K1; replace ho1 := hide ho1; replace hb1 := hide hb1
    clear hK ho hc hlt
    go_enter Try.func39, Try.ntmps39
    go_wp2_with fail
    generalize w.setCell ⟨g, 3, none⟩ (.int .u32 z) = w1 at *
    have c0' := (unhide K1).cell 2
    simp at c0'
    clear i0 hw c0 c1 c2 hd
    go_loopw [4] (fun i wr => ∃ (j : Nat), j ≤ l.length ∧ i = .int .i64 ((j : Int) - 1) ∧ Hid (l.drop j = List.replicate (l.length - j) 255) ∧ Hid (Blk wr g 64 #[.int .u32 s, cv, .slice (some ⟨gt, 0, none⟩) l.length cap, .int .u32 z]) ∧ Hid (wr.ownsRow base 5 1 (.slice (some ⟨gt, 0, none⟩) l.length cap) l.length ((car l j).flatMap byc)) ∧ Hid (But [g, gt] w wr)) (fun i _ => (intOf i + 1).toNat)
    case atStart => exact ⟨l.length, Nat.le_refl _, rfl, hide (by simp), K1, hide (by rw [car_top]; exact unhide ho1), hb1⟩
    case round =>
      obtain ⟨j, hj, rfl, h5, hK, ho1, hb⟩ := hrel
      cases j with
      | zero =>
        have e1 := car_zero (unhide h5)
        have ho2 := unhide ho1
        rw [e1] at ho2
        replace ho2 := hide ho2
        clear ho1 e1 h5
        go_wp2_with fail
        refine bodyPost_end (results_none rfl _ _ _) rfl ?_
        exact ⟨rfl, unhide hK, unhide ho2, unhide hb⟩
      | succ j =>
        have hjl : j < l.length := by omega
        obtain ⟨g0, cur, e0, hb0, hG⟩ := own_pos (unhide ho1) (by omega)
        injection e0 with e0
        injection e0 with e0
        subst e0
        have hx := (own_cell (unhide ho1) j hjl).trans (byc_at _ j (by rw [car_len (by omega)]; exact hjl))
        rw [car_get hjl] at hx
        have hf := hG.frozen j
        have hx8 := hB l[j] (List.getElem_mem _)
        have hwr := wrap8 hx8
        have c3 := (unhide hK).cell 2
        simp at c3
        have j0 : IntKind.i64.wrap ((j : Int) - 1) = (j : Int) - 1 := IntWalk.i64_in _ (by omega)
        have j1 : ((j + 1 : Nat) : Int) - 1 = (j : Int) := by omega
        have j2 : (0 : Int) ≤ (j : Int) := by omega
        have j3 : (j : Int) < (l.length : Int) := by omega
        rw [j1]
        by_cases h255 : l[j] = 255
        · have ho2 := own_put (k := j) (unhide ho1) (.int .u8 0)
          rw [byc_set, car_set hjl] at ho2
          have h5' := car_next hjl (unhide h5) h255
          rw [h255] at hx hwr
          simp only [if_true] at hwr
          have hb2 := (unhide hb).set (p := ⟨gt, j, none⟩) (by simp) (.int .u8 0)
          have hK2 := (unhide hK).far (p := ⟨gt, j, none⟩) hgt (.int .u8 0)
          replace ho2 := hide ho2; replace h5' := hide h5'; replace hb2 := hide hb2; replace hK2 := hide hK2
          clear ho1 h5 hb hG h255 hx8 hK
          go_wp2_with fail
          clear j0 hwr
          go_roundw
          case rel => exact ⟨j, by omega, rfl, h5', hK2, ho2, hb2⟩
          case measure => simp [intOf]
        · have ho2 := own_put (k := j) (unhide ho1) (.int .u8 (l[j] + 1))
          rw [byc_set, car_inc hjl (unhide h5) h255] at ho2
          rw [if_neg h255] at hwr
          have hne : (l[j] + 1 == 0) = false := by simp; omega
          have hne' : (l[j] + 1 != 0) = true := by simp; omega
          have hb2 := (unhide hb).set (p := ⟨gt, j, none⟩) (by simp) (.int .u8 (l[j] + 1))
          have hK2 := (unhide hK).far (p := ⟨gt, j, none⟩) hgt (.int .u8 (l[j] + 1))
          replace ho2 := hide ho2; replace hb2 := hide hb2; replace hK2 := hide hK2
          clear ho1 h5 hb hG h255 hx8 hK
          generalize l[j] = x at *
          go_wp2_with fail
          refine bodyPost_ret (results_none rfl _ _ _) rfl ?_
          exact ⟨rfl, unhide hK2, unhide ho2, unhide hb2⟩
  · rw [if_neg hc]
    have hge : decide (p ≤ (low + p) % 4294967296) = true := by simp; omega
    generalize (low + p) % 4294967296 = z at *
    replace K1 := hide K1; replace ho1 := hide ho1; replace hb1 := hide hb1
    clear hK ho hc
    go_enter Try.func39, Try.ntmps39
    go_wp2_with fail
    refine bodyPost_ret (results_none rfl _ _ _) rfl ?_
    exact ⟨rfl, unhide K1, unhide ho1, unhide hb1⟩
end Go.Proofs.Ythmhhgodjpgjnaa
