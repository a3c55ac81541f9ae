import Derived.Test.YthmhhgodjpgjnaaW35
import Derived.Lib.SlBytesConst
namespace Go.Proofs.Ythmhhgodjpgjnaa
open Go.RowKit

theorem Os.convert {lo hi : Nat} {w : World} {v : Value} {l : List Int} (h : Os lo hi w v l) : (convert 23 9 v).run Try.prog w = .ok (.string (strOfNums l)) w := by
  obtain ⟨A, c, rfl, h1, h2, h3⟩ := h.open1
  rcases Nat.eq_zero_or_pos l.length with h0 | h0
  · obtain rfl : l = [] := List.eq_nil_of_length_eq_zero h0
    rw [run_convert_bytes_string w 23 9 5 _ _ c Try.underlying23 Try.underlying5 Try.underlying9]
    cases A <;> simp [Conv.bytesToString, loadCells, loadCellsFrom, strOfNums]
    all_goals rfl
  · obtain ⟨b, o, rfl, _, _, _⟩ := h3 0 h0
    exact run_convert_bytes_arg (P := Try.prog) w 23 5 Try.underlying23 Try.underlying5 b o l.length c l rfl (fun i hi => by
      obtain ⟨b', o', e, _, _, hc⟩ := h3 i (by simpa using hi)
      injection e with e; injection e with e1 e2; subst e1 e2
      rw [hc _ rfl]
      simp [List.getD, List.getElem?_eq_getElem (show i < l.length by simpa using hi)]) 9 Try.underlying9
theorem bytesOf_inj {a b : List Int} (ha : okB a) (hb : okB b) (h : Lib.bytesOf a = Lib.bytesOf b) : a = b := by
  unfold Lib.bytesOf at h
  induction a generalizing b with
  | nil =>
    cases b with
    | nil => rfl
    | cons y s => simp at h
  | cons x r ih =>
    cases b with
    | nil => simp at h
    | cons y s =>
      rw [List.map_cons, List.map_cons] at h
      injection h with h1 h2
      have hx := ha x (by simp)
      have hy := hb y (by simp)
      have e : x.toNat = y.toNat := by
        have := congrArg UInt8.toNat h1
        simp at this
        omega
      rw [ih (fun z hz => ha z (by simp [hz])) (fun z hz => hb z (by simp [hz])) h2, show x = y by omega]
theorem str_eq {a b : List Int} (ha : okB a) (hb : okB b) : ((strOfNums a).toList == (strOfNums b).toList) = decide (a = b) := by
  rw [Lib.strOfNums_toList, Lib.strOfNums_toList, Bool.eq_iff_iff]
  simp only [beq_iff_eq, decide_eq_true_eq]
  exact ⟨bytesOf_inj ha hb, fun h => by rw [h]⟩

set_option maxHeartbeats 400000 in
/-- The reference's SameBytes. -/
theorem sameBytes_any (lo hi lo' hi' : Nat) (v1 v2 : Value) (a b : List Int) (w : World) (h1 : Os lo hi w v1 a) (h2 : Os lo' hi' w v2 b) (ha : okB a) (hb : okB b) : Calls Try.prog 14 #[v1, v2] w fun e w' => e = .returned (.bool (decide (a = b))) ∧ w = w' := by
  have c1 := h1.convert
  have c2 := h2.convert
  have hs := str_eq ha hb
  clear h1 h2 ha hb
  go_enter Try.func14, Try.ntmps14
  go_wp2
  go_ret
  exact ⟨rfl, rfl⟩

set_option maxHeartbeats 1000000 in
theorem sameBits_any (lo hi lo' hi' : Nat) (v1 v2 : Value) (a b : List Bool) (w : World) (h1 : Bos lo hi w v1 a) (h2 : Bos lo' hi' w v2 b) (hi1 : hi ≤ w.heap.size) (hi2 : hi' ≤ w.heap.size) :
    Calls Try.prog 15 #[v1, v2] w fun e w' => e = .returned (.bool (decide (a = b))) ∧ Below w.heap.size w w' := by
  replace h1 : Bos lo w.heap.size w v1 a := h1.mono (Nat.le_refl _) hi1
  replace h2 : Bos lo' w.heap.size w v2 b := h2.mono (Nat.le_refl _) hi2
  obtain ⟨A, c, rfl, x1, x2, x3⟩ := h1.open
  obtain ⟨B, d, rfl, y1, y2, y3⟩ := h2.open
  clear h1 h2
  by_cases hl : a.length = b.length
  · replace x3 := hide x3; replace y3 := hide y3
    rw [← hl]
    replace hl := hide hl
    go_enter Try.func15, Try.ntmps15
    go_wp2
    go_loopw [13] (fun i wr => ∃ (k : Nat), k ≤ a.length ∧ i = .int .i64 k ∧ Hid (∀ j, (h : j < a.length) → (h' : j < b.length) → j < k → a[j] = b[j]) ∧ Hid (Below w.heap.size w wr)) (fun i _ => a.length - (intOf i).toNat)
    case atStart => exact ⟨0, Nat.zero_le _, rfl, hide (fun j _ _ h => absurd h (Nat.not_lt_zero _)), hide (by (repeat (first | with_reducible exact Below.refl _ _ | with_reducible assumption | with_reducible refine Below.drew ?_ | with_reducible refine bl_alloc ?_ _ | with_reducible refine bl_call ?_ (by assumption) | (focus (with_reducible refine Below.setCell ?_ ?_ _; rotate_left; focus (first | omega | (simp <;> omega)))) | fail)))⟩
    case round =>
      obtain ⟨k, hk, rfl, hs, hb⟩ := hrel
      by_cases hlt : k < a.length
      · have ha : k < a.length := hlt
        have hb' : k < b.length := by have := unhide hl; omega
        obtain ⟨g, off, rfl, g1, g2, q0⟩ := unhide x3 k ha
        obtain ⟨g', off', rfl, g3, g4, p0⟩ := unhide y3 k hb'
        have c0 := ((unhide hb).cell (p := ⟨g, off + k, none⟩) g2).trans q0
        have d0 := ((unhide hb).cell (p := ⟨g', off' + k, none⟩) g4).trans p0
        have z1 : g < wr.heap.size := World.block_lt_of_cell? wr _ c0
        have z2 : g' < wr.heap.size := World.block_lt_of_cell? wr _ d0
        have i3 : IntKind.i64.wrap ((k : Int) + 1) = (k : Int) + 1 := IntWalk.i64_in _ (by omega)
        have hb0 := unhide hb
        have hab : Hid (a[k] = b[k] → ∀ j, (h : j < a.length) → (h' : j < b.length) → j < k + 1 → a[j] = b[j]) := hide fun e j h h' hj => by
          rcases Nat.lt_or_ge j k with h1 | h1
          · exact unhide hs j h h' h1
          · obtain rfl : j = k := by omega
            exact e
        have hne : Hid (¬ a[k] = b[k] → ¬ a = b) := hide fun e h => e (by subst h; rfl)
        generalize a[k] = s at *
        generalize b[k] = t at *
        clear q0 p0 hb'
        replace hb0 := hide hb0
        by_cases he : s = t
        · have he' := he
          subst he
          replace he' := hide he'
          go_wp2_with fail
          go_quiet (fail)
          go_wp2_with fail
          clear i3
          go_roundw
          case rel => exact ⟨k + 1, by omega, by go_num, hide (unhide hab (by first | rfl | trivial)), hide (below_drewN (unhide hb0) _)⟩
          case measure => simp [intOf]; omega
        · have hd : (s == t) = false := by simpa using he
          have hd2 : (s != t) = true := by simp [bne, hd]
          replace he := hide he
          go_wp2_with fail
          go_quiet (fail)
          go_wp2_with fail
          go_ret
          exact ⟨ret_b rfl (by rw [decide_eq_false (unhide hne (unhide he))]), below_drewN (unhide hb0) _⟩
      · have he : Hid (a = b) := hide (List.ext_getElem (unhide hl) fun j h h' => unhide hs j h h' (by omega))
        have hb0 := unhide hb
        go_wp2
        go_ret
        exact ⟨ret_b rfl (by simp [unhide he]), by (repeat (first | with_reducible exact Below.refl _ _ | with_reducible assumption | with_reducible refine Below.drew ?_ | with_reducible refine bl_alloc ?_ _ | with_reducible refine bl_call ?_ (by assumption) | (focus (with_reducible refine Below.setCell ?_ ?_ _; rotate_left; focus (first | omega | (simp <;> omega)))) | fail))⟩
  · have hne : Hid (¬ a = b) := hide fun h => hl (by rw [h])
    clear x3 y3
    go_enter Try.func15, Try.ntmps15
    go_wp2
    go_ret
    exact ⟨ret_b rfl (by simp [unhide hne]), by (repeat (first | with_reducible exact Below.refl _ _ | with_reducible assumption | with_reducible refine Below.drew ?_ | with_reducible refine bl_alloc ?_ _ | with_reducible refine bl_call ?_ (by assumption) | (focus (with_reducible refine Below.setCell ?_ ?_ _; rotate_left; focus (first | omega | (simp <;> omega)))) | fail))⟩

theorem Encode_any (n : Int) (lo : Nat) (v : Value) (bs : List Bit) (w : World) (h : Bts lo w.heap.size w v bs) (hl : bs.length ≤ 1000) :
    Calls Try.prog 10 #[.int .i64 n, v] w fun e w' => ∃ A c, e = .returned (.tuple #[.slice A (encT n bs).length c, .int .i64 (encE n bs)]) ∧
      w'.ownsRow w.heap.size 5 1 (.slice A (encT n bs).length c) (encT n bs).length ((encT n bs).flatMap byc) ∧ Below w.heap.size w w' := by
  cases hn : newN n
  · have e : encE n bs = 1 := by unfold encE; rw [if_pos hn]
    have e2 : encT n bs = [] := by unfold encT; rw [if_neg (by rw [e]; decide)]
    rw [e, e2]
    exact (Encode_bad n hn v w).mono fun e w' ⟨he, hb⟩ => ⟨none, 0, he, World.ownsRow_nil _ _ _ _, hb⟩
  · obtain ⟨n0, n1⟩ := newN_iff.1 hn
    obtain ⟨m, rfl⟩ : ∃ m : Nat, n = (m : Int) := ⟨n.toNat, by omega⟩
    cases hin : bs.all (inB m)
    · have e : encE m bs = 4 := by unfold encE; rw [if_neg (by rw [hn]; decide), if_neg (by omega), if_pos (by simpa using hin)]
      have e2 : encT m bs = [] := by unfold encT; rw [if_neg (by rw [e]; decide)]
      rw [e, e2]
      exact (Encode_none m (by omega) lo v bs w h hl hin).mono fun e w' ⟨he, hb⟩ => ⟨none, 0, he, World.ownsRow_nil _ _ _ _, hb⟩
    · have e : encE m bs = 0 := by unfold encE; rw [if_neg (by rw [hn]; decide), if_neg (by omega), if_neg (by simp only [Int.toNat_natCast]; rw [hin]; decide)]
      rw [e, encT_ok e]
      exact (Encode_good m (by omega) lo v bs w h hl hin).mono fun e w' ⟨g, c, he, ho, hb⟩ => ⟨some ⟨g, 0, none⟩, c, he, ho, hb⟩
theorem Decode_any (n : Int) (lo lo' : Nat) (v v' : Value) (t at_ : List Int) (w : World) (hv : Os lo w.heap.size w v t) (hv' : Is lo' w.heap.size w v' at_) (ht : okB t) (hl : t.length ≤ 1000000) (hl' : at_.length ≤ 1000) :
    Calls Try.prog 12 #[.int .i64 n, v, v'] w fun e w' => ∃ A c, e = .returned (.tuple #[.slice A (decR n t at_).1.length c, .int .i64 (decR n t at_).2.1, .int .i64 (decR n t at_).2.2]) ∧
      w'.ownsRow w.heap.size 4 1 (.slice A (decR n t at_).1.length c) (decR n t at_).1.length ((decR n t at_).1.flatMap bvc) ∧ Below w.heap.size w w' := by
  by_cases h : startE n t = 0
  · obtain ⟨n0, n1⟩ := newN_iff.1 (startE_iff.1 h).1
    obtain ⟨m, rfl⟩ : ∃ m : Nat, n = (m : Int) := ⟨n.toNat, by omega⟩
    have e : decR m t at_ = rdA t [] (startR m t) at_ := by unfold decR; rw [if_pos h]
    rw [e]
    exact Decode_good m (by omega) lo lo' v v' t at_ w hv hv' ht hl hl' h
  · have e : decR n t at_ = ([], 0, startE n t) := by unfold decR; rw [if_neg h]
    rw [e]
    exact (Decode_bad n lo v v' t w hv ht h).mono fun e w' ⟨he, hb⟩ => ⟨none, 0, he, World.ownsRow_nil _ _ _ _, hb⟩

theorem Os.of_blk {w : World} {g : Nat} {l : List Int} (h : Blk w g 5 (l.flatMap byc).toArray) (hl : l.length ≤ 9223372036854775807) : Os 0 w.heap.size w (.slice (some ⟨g, 0, none⟩) l.length l.length) l := by
  refine ⟨_, _, rfl, Nat.le_refl _, hl, fun _ => ⟨g, 0, rfl, Nat.zero_le _, h.lt, fun i hi j u hu => ?_⟩⟩
  have hj : j < 1 := (List.getElem?_eq_some_iff.1 hu).1
  obtain rfl : j = 0 := by omega
  rw [h.cell, Nat.zero_add]
  have := byc_at l i hi
  simp [byc] at this hu ⊢
  rw [this, hu]
set_option maxHeartbeats 1000000 in
theorem live_any (w : World) : Calls Try.prog 9 #[] w fun e w' => e = .returned (.bool true) ∧ Below w.heap.size w w' := by
  have kc := fun (w : World) (C : Array Value) (n c : Nat) => Lib.run_convert_bytes_const (P := Try.prog) w 23 5 C n c Try.underlying23 Try.underlying5
  have e1 : encE 1 [] = 0 := by decide
  have e2 : encT 1 [] = [0, 0, 0, 0, 0] := by decide
  have hE : ∀ W, Calls Try.prog 10 #[.int .i64 1, .slice none 0 0] W fun e w' => ∃ A c, e = .returned (.tuple #[.slice A 5 c, .int .i64 0]) ∧ w'.ownsRow W.heap.size 5 1 (.slice A 5 c) 5 (([0, 0, 0, 0, 0] : List Int).flatMap byc) ∧ Below W.heap.size W w' := fun W => by
    have := Encode_any 1 0 (.slice none 0 0) [] W (Rd.nil _ _ _ _ _) (by simp)
    rw [e1, e2] at this
    exact this
  replace hE := hide hE
  clear e1 e2
  go_enter Try.func9, Try.ntmps9
  go_wp2_with (first
    | (go_at_call 10; refine (unhide hE _).mono ?_; rintro e w1 ⟨A, c, rfl, ho, hb1⟩
       have hcv := Os.convert (Rd.of_own (l := ([0, 0, 0, 0, 0] : List Int)) byc_len (by omega) ho)
       have hcv2 := Os.convert (Os.of_blk (l := [0, 0, 0, 0, 0]) (Blk.new (w := w1) (g := w1.heap.size) (t := 5) (cs := (([0, 0, 0, 0, 0] : List Int).flatMap byc).toArray) rfl) (by simp))
       have hs := str_eq (a := [0, 0, 0, 0, 0]) (b := [0, 0, 0, 0, 0]) (by intro x hx; simp at hx; omega) (by intro x hx; simp at hx; omega)
       change (convert 23 9 (.slice (some ⟨w1.heap.size, 0, none⟩) 5 5)).run Try.prog (w1.alloc (.cells #[.int .u8 0, .int .u8 0, .int .u8 0, .int .u8 0, .int .u8 0] 5)) = _ at hcv2
       generalize strOfNums [0, 0, 0, 0, 0] = S at hcv hcv2 hs)
    | fail)
  go_ret
  exact ⟨ret_b rfl (by first | rfl | simp), by (repeat (first | with_reducible exact Below.refl _ _ | with_reducible assumption | with_reducible refine Below.drew ?_ | with_reducible refine bl_alloc ?_ _ | with_reducible refine bl_call ?_ (by assumption) | (focus (with_reducible refine Below.setCell ?_ ?_ _; rotate_left; focus (first | omega | (simp <;> omega)))) | fail))⟩
end Go.Proofs.Ythmhhgodjpgjnaa
