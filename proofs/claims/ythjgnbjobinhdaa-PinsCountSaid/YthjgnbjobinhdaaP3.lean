import Derived.Test.YthjgnbjobinhdaaP2
namespace Go.Proofs.Ythjgnbjobinhdaa
open Go.RowKit
set_option maxRecDepth 100000

set_option maxHeartbeats 1000000 in
theorem index28_any (cap : Value) (p : Pn → Bool) (lo hi : Nat) (v : Value) (l : List Pn) (w : World) (h : Pns lo hi w v l) (hhi : hi ≤ w.heap.size)
    (hf : ∀ f W, Below w.heap.size w W → Calls Try.prog 28 #[(.agg #[.int .u64 f.g, .int .i64 f.n]), cap] W fun e w' => e = .returned (.bool (p f)) ∧ Below W.heap.size W w') :
    Calls Try.prog 35 #[v, .func (.func 28) #[] #[cap]] w fun e w' => e = .returned (.int .i64 (firstI p 0 l)) ∧ Below w.heap.size w w' := by
  obtain ⟨A, c, rfl, h1, h2, h3⟩ := h.open2
  replace h3 := hide h3; replace hf := hide hf; clear h
  go_enter Try.func35, Try.ntmps35
  go_wp2
  go_loopw [8] (fun i wr => ∃ (k : Nat), k ≤ l.length ∧ i = .int .i64 k ∧ Hid (firstI p 0 l = firstI p k (l.drop k)) ∧ Hid (Below w.heap.size w wr)) (fun i _ => l.length - (intOf i).toNat)
  case atStart => exact ⟨0, Nat.zero_le _, rfl, hide (by simp), hide (Below.refl _ _)⟩
  case round =>
    obtain ⟨k, hk', rfl, hw, hb⟩ := hrel
    by_cases hlt : k < l.length
    · obtain ⟨b, off, rfl, g1, g2, q0, q1⟩ := unhide h3 k hlt
      have g3 : b < wr.heap.size := Nat.lt_of_lt_of_le (Nat.lt_of_lt_of_le g2 hhi) (unhide hb).size
      have c0 := ((unhide hb).cell (p := ⟨b, off + k * 2, none⟩) (Nat.lt_of_lt_of_le g2 hhi)).trans q0
      have c1 := ((unhide hb).cell (p := ⟨b, off + k * 2 + 1, none⟩) (Nat.lt_of_lt_of_le g2 hhi)).trans q1
      have hd : l.drop k = nth l k :: l.drop (k + 1) := by rw [nth_get hlt]; exact List.drop_eq_getElem_cons hlt
      have hfk := unhide hf (nth l k) wr (unhide hb)
      generalize nth l k = f at *
      replace hd := hide hd
      clear q0 q1 g1
      cases hp : p f with
      | true =>
        rw [hp] at hfk
        replace hfk := hide hfk
        go_wp2_with (go_at_call 28; refine (unhide hfk).mono ?_; rintro e w1 ⟨rfl, hb1⟩)
        go_ret
        refine ⟨ret_i rfl ?_, (unhide hb).trans (hb1.mono (unhide hb).size)⟩
        rw [unhide hw, unhide hd, firstI, if_pos hp]
      | false =>
        rw [hp] at hfk
        replace hfk := hide hfk
        go_wp2_with (go_at_call 28; refine (unhide hfk).mono ?_; rintro e w1 ⟨rfl, hb1⟩)
        go_roundw
        case rel =>
          refine ⟨k + 1, by omega, by go_num, hide ?_, hide ((unhide hb).trans (hb1.mono (unhide hb).size))⟩
          rw [unhide hw, unhide hd, firstI, if_neg (by simp [hp])]
        case measure => simp [intOf]; omega
    · go_wp2
      go_ret
      refine ⟨ret_i rfl ?_, unhide hb⟩
      rw [unhide hw, List.drop_of_length_le (by omega)]
      rfl
set_option maxHeartbeats 1000000 in
theorem first28_any (cap : Value) (p : Pn → Bool) (lo hi : Nat) (v : Value) (l : List Pn) (w : World) (h : Pns lo hi w v l) (hhi : hi ≤ w.heap.size)
    (hf : ∀ f W, Below w.heap.size w W → Calls Try.prog 28 #[(.agg #[.int .u64 f.g, .int .i64 f.n]), cap] W fun e w' => e = .returned (.bool (p f)) ∧ Below W.heap.size W w') :
    Calls Try.prog 27 #[v, .func (.func 28) #[] #[cap]] w fun e w' => e = .returned (.int .i64 (ahead p l : Nat)) ∧ Below w.heap.size w w' := by
  have hidx := index28_any cap p lo hi v l w h hhi hf
  obtain ⟨A, c, rfl, _, _, _⟩ := h.open2
  rcases ahead_first p l 0 with ⟨h2, h3⟩ | ⟨h2, _⟩
  · rw [h2] at hidx
    replace hidx := hide hidx
    clear h hf h2
    replace h3 := hide h3
    go_enter Try.func27, Try.ntmps27
    go_wp2_with (go_at_call 35; refine (unhide hidx).mono ?_; rintro e w1 ⟨rfl, hb1⟩)
    go_ret
    exact ⟨ret_i rfl (by rw [unhide h3]), hb1⟩
  · rw [h2, Nat.zero_add] at hidx
    replace hidx := hide hidx
    clear h hf h2
    have j : (0 : Int) ≤ (ahead p l : Nat) := by omega
    go_enter Try.func27, Try.ntmps27
    go_wp2_with (go_at_call 35; refine (unhide hidx).mono ?_; rintro e w1 ⟨rfl, hb1⟩)
    go_ret
    exact ⟨ret_i rfl rfl, hb1⟩
set_option maxHeartbeats 1000000 in
theorem index29_any (cap : Value) (p : Pn → Bool) (lo hi : Nat) (v : Value) (l : List Pn) (w : World) (h : Pns lo hi w v l) (hhi : hi ≤ w.heap.size)
    (hf : ∀ f W, Below w.heap.size w W → Calls Try.prog 29 #[(.agg #[.int .u64 f.g, .int .i64 f.n]), cap] W fun e w' => e = .returned (.bool (p f)) ∧ Below W.heap.size W w') :
    Calls Try.prog 35 #[v, .func (.func 29) #[] #[cap]] w fun e w' => e = .returned (.int .i64 (firstI p 0 l)) ∧ Below w.heap.size w w' := by
  obtain ⟨A, c, rfl, h1, h2, h3⟩ := h.open2
  replace h3 := hide h3; replace hf := hide hf; clear h
  go_enter Try.func35, Try.ntmps35
  go_wp2
  go_loopw [8] (fun i wr => ∃ (k : Nat), k ≤ l.length ∧ i = .int .i64 k ∧ Hid (firstI p 0 l = firstI p k (l.drop k)) ∧ Hid (Below w.heap.size w wr)) (fun i _ => l.length - (intOf i).toNat)
  case atStart => exact ⟨0, Nat.zero_le _, rfl, hide (by simp), hide (Below.refl _ _)⟩
  case round =>
    obtain ⟨k, hk', rfl, hw, hb⟩ := hrel
    by_cases hlt : k < l.length
    · obtain ⟨b, off, rfl, g1, g2, q0, q1⟩ := unhide h3 k hlt
      have g3 : b < wr.heap.size := Nat.lt_of_lt_of_le (Nat.lt_of_lt_of_le g2 hhi) (unhide hb).size
      have c0 := ((unhide hb).cell (p := ⟨b, off + k * 2, none⟩) (Nat.lt_of_lt_of_le g2 hhi)).trans q0
      have c1 := ((unhide hb).cell (p := ⟨b, off + k * 2 + 1, none⟩) (Nat.lt_of_lt_of_le g2 hhi)).trans q1
      have hd : l.drop k = nth l k :: l.drop (k + 1) := by rw [nth_get hlt]; exact List.drop_eq_getElem_cons hlt
      have hfk := unhide hf (nth l k) wr (unhide hb)
      generalize nth l k = f at *
      replace hd := hide hd
      clear q0 q1 g1
      cases hp : p f with
      | true =>
        rw [hp] at hfk
        replace hfk := hide hfk
        go_wp2_with (go_at_call 29; refine (unhide hfk).mono ?_; rintro e w1 ⟨rfl, hb1⟩)
        go_ret
        refine ⟨ret_i rfl ?_, (unhide hb).trans (hb1.mono (unhide hb).size)⟩
        rw [unhide hw, unhide hd, firstI, if_pos hp]
      | false =>
        rw [hp] at hfk
        replace hfk := hide hfk
        go_wp2_with (go_at_call 29; refine (unhide hfk).mono ?_; rintro e w1 ⟨rfl, hb1⟩)
        go_roundw
        case rel =>
          refine ⟨k + 1, by omega, by go_num, hide ?_, hide ((unhide hb).trans (hb1.mono (unhide hb).size))⟩
          rw [unhide hw, unhide hd, firstI, if_neg (by simp [hp])]
        case measure => simp [intOf]; omega
    · go_wp2
      go_ret
      refine ⟨ret_i rfl ?_, unhide hb⟩
      rw [unhide hw, List.drop_of_length_le (by omega)]
      rfl
set_option maxHeartbeats 1000000 in
theorem first29_any (cap : Value) (p : Pn → Bool) (lo hi : Nat) (v : Value) (l : List Pn) (w : World) (h : Pns lo hi w v l) (hhi : hi ≤ w.heap.size)
    (hf : ∀ f W, Below w.heap.size w W → Calls Try.prog 29 #[(.agg #[.int .u64 f.g, .int .i64 f.n]), cap] W fun e w' => e = .returned (.bool (p f)) ∧ Below W.heap.size W w') :
    Calls Try.prog 27 #[v, .func (.func 29) #[] #[cap]] w fun e w' => e = .returned (.int .i64 (ahead p l : Nat)) ∧ Below w.heap.size w w' := by
  have hidx := index29_any cap p lo hi v l w h hhi hf
  obtain ⟨A, c, rfl, _, _, _⟩ := h.open2
  rcases ahead_first p l 0 with ⟨h2, h3⟩ | ⟨h2, _⟩
  · rw [h2] at hidx
    replace hidx := hide hidx
    clear h hf h2
    replace h3 := hide h3
    go_enter Try.func27, Try.ntmps27
    go_wp2_with (go_at_call 35; refine (unhide hidx).mono ?_; rintro e w1 ⟨rfl, hb1⟩)
    go_ret
    exact ⟨ret_i rfl (by rw [unhide h3]), hb1⟩
  · rw [h2, Nat.zero_add] at hidx
    replace hidx := hide hidx
    clear h hf h2
    have j : (0 : Int) ≤ (ahead p l : Nat) := by omega
    go_enter Try.func27, Try.ntmps27
    go_wp2_with (go_at_call 35; refine (unhide hidx).mono ?_; rintro e w1 ⟨rfl, hb1⟩)
    go_ret
    exact ⟨ret_i rfl rfl, hb1⟩
set_option maxHeartbeats 1000000 in
theorem index30_any (cap : Value) (p : Pn → Bool) (lo hi : Nat) (v : Value) (l : List Pn) (w : World) (h : Pns lo hi w v l) (hhi : hi ≤ w.heap.size)
    (hf : ∀ f W, Below w.heap.size w W → Calls Try.prog 30 #[(.agg #[.int .u64 f.g, .int .i64 f.n]), cap] W fun e w' => e = .returned (.bool (p f)) ∧ Below W.heap.size W w') :
    Calls Try.prog 35 #[v, .func (.func 30) #[] #[cap]] w fun e w' => e = .returned (.int .i64 (firstI p 0 l)) ∧ Below w.heap.size w w' := by
  obtain ⟨A, c, rfl, h1, h2, h3⟩ := h.open2
  replace h3 := hide h3; replace hf := hide hf; clear h
  go_enter Try.func35, Try.ntmps35
  go_wp2
  go_loopw [8] (fun i wr => ∃ (k : Nat), k ≤ l.length ∧ i = .int .i64 k ∧ Hid (firstI p 0 l = firstI p k (l.drop k)) ∧ Hid (Below w.heap.size w wr)) (fun i _ => l.length - (intOf i).toNat)
  case atStart => exact ⟨0, Nat.zero_le _, rfl, hide (by simp), hide (Below.refl _ _)⟩
  case round =>
    obtain ⟨k, hk', rfl, hw, hb⟩ := hrel
    by_cases hlt : k < l.length
    · obtain ⟨b, off, rfl, g1, g2, q0, q1⟩ := unhide h3 k hlt
      have g3 : b < wr.heap.size := Nat.lt_of_lt_of_le (Nat.lt_of_lt_of_le g2 hhi) (unhide hb).size
      have c0 := ((unhide hb).cell (p := ⟨b, off + k * 2, none⟩) (Nat.lt_of_lt_of_le g2 hhi)).trans q0
      have c1 := ((unhide hb).cell (p := ⟨b, off + k * 2 + 1, none⟩) (Nat.lt_of_lt_of_le g2 hhi)).trans q1
      have hd : l.drop k = nth l k :: l.drop (k + 1) := by rw [nth_get hlt]; exact List.drop_eq_getElem_cons hlt
      have hfk := unhide hf (nth l k) wr (unhide hb)
      generalize nth l k = f at *
      replace hd := hide hd
      clear q0 q1 g1
      cases hp : p f with
      | true =>
        rw [hp] at hfk
        replace hfk := hide hfk
        go_wp2_with (go_at_call 30; refine (unhide hfk).mono ?_; rintro e w1 ⟨rfl, hb1⟩)
        go_ret
        refine ⟨ret_i rfl ?_, (unhide hb).trans (hb1.mono (unhide hb).size)⟩
        rw [unhide hw, unhide hd, firstI, if_pos hp]
      | false =>
        rw [hp] at hfk
        replace hfk := hide hfk
        go_wp2_with (go_at_call 30; refine (unhide hfk).mono ?_; rintro e w1 ⟨rfl, hb1⟩)
        go_roundw
        case rel =>
          refine ⟨k + 1, by omega, by go_num, hide ?_, hide ((unhide hb).trans (hb1.mono (unhide hb).size))⟩
          rw [unhide hw, unhide hd, firstI, if_neg (by simp [hp])]
        case measure => simp [intOf]; omega
    · go_wp2
      go_ret
      refine ⟨ret_i rfl ?_, unhide hb⟩
      rw [unhide hw, List.drop_of_length_le (by omega)]
      rfl
set_option maxHeartbeats 1000000 in
theorem first30_any (cap : Value) (p : Pn → Bool) (lo hi : Nat) (v : Value) (l : List Pn) (w : World) (h : Pns lo hi w v l) (hhi : hi ≤ w.heap.size)
    (hf : ∀ f W, Below w.heap.size w W → Calls Try.prog 30 #[(.agg #[.int .u64 f.g, .int .i64 f.n]), cap] W fun e w' => e = .returned (.bool (p f)) ∧ Below W.heap.size W w') :
    Calls Try.prog 27 #[v, .func (.func 30) #[] #[cap]] w fun e w' => e = .returned (.int .i64 (ahead p l : Nat)) ∧ Below w.heap.size w w' := by
  have hidx := index30_any cap p lo hi v l w h hhi hf
  obtain ⟨A, c, rfl, _, _, _⟩ := h.open2
  rcases ahead_first p l 0 with ⟨h2, h3⟩ | ⟨h2, _⟩
  · rw [h2] at hidx
    replace hidx := hide hidx
    clear h hf h2
    replace h3 := hide h3
    go_enter Try.func27, Try.ntmps27
    go_wp2_with (go_at_call 35; refine (unhide hidx).mono ?_; rintro e w1 ⟨rfl, hb1⟩)
    go_ret
    exact ⟨ret_i rfl (by rw [unhide h3]), hb1⟩
  · rw [h2, Nat.zero_add] at hidx
    replace hidx := hide hidx
    clear h hf h2
    have j : (0 : Int) ≤ (ahead p l : Nat) := by omega
    go_enter Try.func27, Try.ntmps27
    go_wp2_with (go_at_call 35; refine (unhide hidx).mono ?_; rintro e w1 ⟨rfl, hb1⟩)
    go_ret
    exact ⟨ret_i rfl rfl, hb1⟩

/-! ### do they rise? -/
set_option maxHeartbeats 1000000 in
theorem index33_any (z : Int) (lo g : Nat) (v : Value) (l : List Pn) (w : World) (h : Pns lo g w v l) (hg : Blk w g 23 #[.int .u64 z]) (hs : SmL l) :
    Calls Try.prog 35 #[v, .func (.func 33) #[] #[.pointer (some ⟨g, 0, none⟩)]] w fun e w' => ∃ i : Int, e = .returned (.int .i64 i) ∧ decide (i ≥ 0) = !rise z l ∧ Below g w w' := by
  obtain ⟨A, c, rfl, h1, h2, h3⟩ := h.open2
  have hlt0 := hg.lt
  replace h3 := hide h3; replace hs := hide hs; clear h; replace hg := hide hg
  go_enter Try.func35, Try.ntmps35
  go_wp2
  go_loopw [8] (fun i wr => ∃ (k : Nat) (x : Int), k ≤ l.length ∧ i = .int .i64 k ∧ Hid (rise z l = rise x (l.drop k)) ∧ Hid (Below g w wr) ∧ Hid (Blk wr g 23 #[.int .u64 x])) (fun i _ => l.length - (intOf i).toNat)
  case atStart => exact ⟨0, z, Nat.zero_le _, rfl, hide (by simp), hide (Below.refl _ _), hg⟩
  case round =>
    obtain ⟨k, x, hk', rfl, hw, hb, hx⟩ := hrel
    by_cases hlt : k < l.length
    · obtain ⟨b, off, rfl, g1, g2, q0, q1⟩ := unhide h3 k hlt
      have g3 : b < wr.heap.size := by have := (unhide hx).lt; omega
      have c0 := ((unhide hb).cell (p := ⟨b, off + k * 2, none⟩) g2).trans q0
      have c1 := ((unhide hb).cell (p := ⟨b, off + k * 2 + 1, none⟩) g2).trans q1
      have hd : l.drop k = nth l k :: l.drop (k + 1) := by rw [nth_get hlt]; exact List.drop_eq_getElem_cons hlt
      have hfk := off_any (nth l k) (unhide hs _ (nth_mem hlt)) x g wr (unhide hx)
      generalize nth l k = f at *
      replace hd := hide hd
      clear q0 q1 g1
      cases hp : offB x f with
      | true =>
        rw [hp] at hfk
        replace hfk := hide hfk
        go_wp2_with (go_at_call 33; refine (unhide hfk).mono ?_; rintro e w1 ⟨rfl, hb1, _⟩)
        go_ret
        refine ⟨(k : Int), rfl, ?_, (unhide hb).trans hb1⟩
        rw [unhide hw, unhide hd, rise_off hp, decide_eq_true (by omega)]; rfl
      | false =>
        rw [hp] at hfk
        replace hfk := hide hfk
        go_wp2_with (go_at_call 33; refine (unhide hfk).mono ?_; rintro e w1 ⟨rfl, hb1, hx1⟩; replace hx1 := hide (hx1 rfl))
        go_roundw
        case rel =>
          refine ⟨k + 1, f.g + 1, by omega, by go_num, hide ?_, hide ((unhide hb).trans hb1), hx1⟩
          rw [unhide hw, unhide hd, rise_on hp]
        case measure => simp [intOf]; omega
    · go_wp2
      go_ret
      refine ⟨-1, rfl, ?_, unhide hb⟩
      rw [unhide hw, List.drop_of_length_le (by omega)]
      rfl
theorem contains_any (z : Int) (lo g : Nat) (v : Value) (l : List Pn) (w : World) (h : Pns lo g w v l) (hg : Blk w g 23 #[.int .u64 z]) (hs : SmL l) :
    Calls Try.prog 32 #[v, .func (.func 33) #[] #[.pointer (some ⟨g, 0, none⟩)]] w fun e w' => e = .returned (.bool (!rise z l)) ∧ Below g w w' := by
  have hidx := index33_any z lo g v l w h hg hs
  obtain ⟨A, c, rfl, _, _, _⟩ := h.open2
  clear h hg hs
  generalize (!rise z l) = q at *
  replace hidx := hide hidx
  go_enter Try.func32, Try.ntmps32
  go_wp2_with (go_at_call 35; refine (unhide hidx).mono ?_; rintro e w1 ⟨i, rfl, he, hb1⟩; replace he := hide he)
  go_ret
  exact ⟨ret_b rfl (unhide he), hb1⟩
theorem rise_any (lo hi : Nat) (v : Value) (l : List Pn) (w : World) (h : Pns lo hi w v l) (hhi : hi ≤ w.heap.size) (hs : SmL l) :
    Calls Try.prog 25 #[v] w fun e w' => e = .returned (.bool (rise 0 l)) ∧ Below w.heap.size w w' := by
  have hc := fun W (hB : Below w.heap.size w W) (hg : Blk W w.heap.size 23 #[.int .u64 0]) => contains_any 0 lo w.heap.size v l W ((h.below hB hhi).mono (Nat.le_refl _) hhi) hg hs
  obtain ⟨A, c, rfl, _, _, _⟩ := h.open2
  clear h hs
  generalize rise 0 l = q at *
  have hc' := fun (o : Obj) (e : o = .cells #[.int .u64 0] 23) => hc (w.alloc o) (bl_alloc (Below.refl _ _) _) (by rw [e]; exact Blk.new rfl)
  clear hc
  replace hc' := hide hc'
  go_enter Try.func25, Try.ntmps25
  go_wp2_with (go_at_call 32; refine (unhide hc' _ rfl).mono ?_; rintro e w1 ⟨rfl, hb1⟩; replace hb1 := hide hb1)
  go_ret
  exact ⟨ret_b rfl (by simp), (bl_alloc (Below.refl _ _) _).trans (unhide hb1)⟩
end Go.Proofs.Ythjgnbjobinhdaa
