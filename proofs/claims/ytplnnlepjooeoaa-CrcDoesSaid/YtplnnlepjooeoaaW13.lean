import Derived.Test.YtplnnlepjooeoaaW12
namespace Go.Proofs.Ytplnnlepjooeoaa
open Go.RowKit

/-- The string of bytes. -/
def strU (l : List UInt8) : ByteArray := strOfNums (l.map fun x => (x.toNat : Int))
theorem Bs.convert {lo hi : Nat} {w : World} {v : Value} {l : List UInt8} (h : Bs lo hi w v l) : (convert 23 9 v).run Try.prog w = .ok (.string (strU l)) w := by
  obtain ⟨A, c, rfl, h1, h2, h3⟩ := h
  rcases Nat.eq_zero_or_pos l.length with h0 | h0
  · obtain rfl : l = [] := List.eq_nil_of_length_eq_zero h0
    rw [run_convert_bytes_string w 23 9 5 _ _ c Try.underlying23 Try.underlying5 Try.underlying9]
    cases A <;> simp [Conv.bytesToString, loadCells, loadCellsFrom, strU, strOfNums]
    all_goals rfl
  · obtain ⟨b, o, rfl, _, _, hc⟩ := h3 h0
    exact run_convert_bytes_arg (P := Try.prog) w 23 5 Try.underlying23 Try.underlying5 b o l.length c (l.map fun x => (x.toNat : Int)) (by simp) (fun i hi => by rw [hc i (by simpa using hi)]; simp [u8v, List.getD, List.getElem?_eq_getElem (show i < l.length by simpa using hi)]) 9 Try.underlying9
theorem strU_toList (l : List UInt8) : (strU l).toList = l := by
  have h := Lib.strOfNums_toList (l.map fun x => (x.toNat : Int))
  have e : Lib.bytesOf (l.map fun x => (x.toNat : Int)) = l := by
    unfold Lib.bytesOf
    rw [List.map_map]
    conv => rhs; rw [← List.map_id l]
    apply List.map_congr_left
    intro x _
    simp
  exact h.trans e
set_option maxHeartbeats 400000 in
theorem sameb_any (lo hi lo' hi' : Nat) (v1 v2 : Value) (a b : List UInt8) (w : World) (h1 : Bs lo hi w v1 a) (h2 : Bs lo' hi' w v2 b) : Calls Try.prog 15 #[v1, v2] w fun e w' => e = .returned (.bool (decide (a = b))) ∧ w = w' := by
  have c1 := h1.convert
  have c2 := h2.convert
  clear h1 h2
  have hs : ((strU a).toList == (strU b).toList) = decide (a = b) := by
    have e1 : (strU a).toList = a := strU_toList a
    have e2 : (strU b).toList = b := strU_toList b
    rw [e1, e2, Bool.eq_iff_iff]; simp
  go_enter Try.func15, Try.ntmps15
  go_wp2
  go_ret
  exact ⟨rfl, rfl⟩

/-- A cell of a row of the call's own is written. -/
theorem own_put {w : World} {base g n cap k : Nat} {e : TypeId} {xs : List Value} (h : w.ownsRow base e 1 (.slice (some ⟨g, 0, none⟩) n cap) n xs) (u : Value) :
    (w.setCell ⟨g, k, none⟩ u).ownsRow base e 1 (.slice (some ⟨g, 0, none⟩) n cap) n (xs.set k u) := by
  obtain ⟨h1, h2⟩ := h
  refine ⟨by rw [List.length_set]; exact h1, ?_⟩
  rcases h2 with ⟨h2, _⟩ | ⟨g', cap', cur, hv, hb, hh, r1, r2, r3, r4⟩
  · cases h2
  · injection hv with e1 _ e3
    injection e1 with e1
    injection e1 with e1
    subst e1 e3
    refine .inr ⟨g, cap, cur.setIfInBounds k u, rfl, hb, heap_setCell_same w g k cur e u hh, r1, r2, by simpa using r3, ?_⟩
    rw [Array.toList_setIfInBounds, List.take_set, r4]
theorem own_pos {w : World} {base n : Nat} {e : TypeId} {A : Option Addr} {c : Nat} {xs : List Value} (h : w.ownsRow base e 1 (.slice A n c) n xs) (h0 : 0 < n) :
    ∃ g cur, A = some ⟨g, 0, none⟩ ∧ base ≤ g ∧ Blk w g e cur ∧ n ≤ cur.size ∧ ∀ k, k < n → cur[k]? = xs[k]? := by
  obtain ⟨h1, h2⟩ := h
  rcases h2 with ⟨h2, h3⟩ | ⟨g', cap', cur, hv, hb, hh, r1, r2, r3, r4⟩
  · omega
  · injection hv with e1 _ e3
    refine ⟨g', cur, e1, hb, hh, by omega, fun k hk => ?_⟩
    subst r4
    rw [List.getElem?_take, if_pos (by omega), Array.getElem?_toList]

/-- A sealed text. -/
def sealL (l : List UInt8) : List UInt8 := l ++ octs (sumR l)
theorem sealL_len (l : List UInt8) : (sealL l).length = l.length + 4 := by simp [sealL, octs]
theorem okO_seal (l : List UInt8) : okO (sealL l) l.length = true := by
  rw [okO_iff (sealL_len l)]
  simp [sealL]
theorem take_seal (l : List UInt8) : (sealL l).take l.length = l := by simp [sealL]
theorem okO_set {l : List UInt8} {k : Nat} (hk : k < (sealL l).length) {c : UInt8} (h : (sealL l)[k] ≠ c) : okO ((sealL l).set k c) l.length = false := by
  cases ho : okO ((sealL l).set k c) l.length with
  | false => rfl
  | true =>
    exfalso
    rw [okO_iff (by rw [List.length_set, sealL_len])] at ho
    unfold sealL at ho h hk
    rcases Nat.lt_or_ge k l.length with h1 | h1
    · rw [List.set_append_left _ _ h1] at ho
      rw [List.drop_left' (by simp), List.take_left' (by simp)] at ho
      rw [List.getElem_append_left h1] at h
      exact sumR_set h1 h (octs_inj ho).symm
    · rw [List.set_append_right _ _ h1] at ho
      rw [List.drop_left' (by simp), List.take_left' (by simp)] at ho
      rw [List.getElem_append_right h1] at h
      have hi : k - l.length < (octs (sumR l)).length := by rw [List.length_append] at hk; omega
      have := List.getElem_set_self (l := octs (sumR l)) (i := k - l.length) (a := c) (by simpa using hi)
      apply h
      rw [← this]
      congr 1
      exact ho.symm
end Go.Proofs.Ytplnnlepjooeoaa
