import Derived.Test.YthkccpemgmpadaaDoorLB
namespace Go.Proofs.YthkccpemgmpadaaDoor
set_option maxRecDepth 100000
open Go.RowKit

/-! ### a block with one octet another one -/
theorem set_cut (l : List UInt8) (k i j : Nat) (c : UInt8) (h : k < i ∨ i + j ≤ k) : ((l.set k c).drop i).take j = (l.drop i).take j := by
  rw [List.drop_set]
  split
  · rfl
  · rw [List.take_set_of_le (by omega)]
theorem told_sum (s : St) (n : Nx) {b : List UInt8} (hb : b.length ≤ 1000) {k : Nat} (hk : k < (sealS s n b).length) {c : UInt8} (h : (sealS s n b)[k] ≠ c) : openS s ((sealS s n b).set k c) = ([], 7) := by
  have hl := seal_len s n b
  have hp := pkU_le (b := b) (by omega)
  have ho : C.okO ((sealS s n b).set k c) (bytesF (boxS s n b)).length = false := C.okO_set hk h
  have hbl : (bytesF (boxS s n b)).length + 4 = (sealS s n b).length := (C.sealL_len _).symm
  have hs : sumS ((sealS s n b).set k c) = ([], 7) := by
    unfold sumS
    rw [List.length_set, if_neg (by omega), show (sealS s n b).length - 4 = (bytesF (boxS s n b)).length by omega, if_neg (by rw [ho]; simp)]
  unfold openS
  rw [List.length_set, if_neg (by omega), hs, if_pos (by decide)]
theorem told_test (s : St) (n : Nx) {b : List UInt8} (hb : b.length ≤ 1000) {k : Nat} (hk : k < (sealS s n b).length) {c : UInt8} (h : (sealS s n b)[k] ≠ c) (l : List Pc) : testS s ((sealS s n b).set k c) l = 7 := by
  unfold testS
  rw [told_sum s n hb hk h, if_pos (by decide)]
theorem box_len (s : St) (n : Nx) (b : List UInt8) : (bytesF (boxS s n b)).length = (pkU b).length + 24 := by
  rw [bytes_len]; show (hidF s n (pkU b)).length + 24 = _; rw [hid_len]
theorem seal_get (s : St) (n : Nx) (b : List UInt8) {k : Nat} (hk : k < (bytesF (boxS s n b)).length) (hk' : k < (sealS s n b).length) : (sealS s n b)[k] = (bytesF (boxS s n b))[k] := by
  exact List.getElem_append_left (bs := C.octs (C.sumR (bytesF (boxS s n b)))) hk
theorem told_tag (s : St) (n : Nx) {b : List UInt8} (hb : b.length ≤ 1000) {k : Nat} (h8 : 8 ≤ k) (h24 : k < 24) (hk : k < (bytesF (boxS s n b)).length) {c : UInt8} (h : (bytesF (boxS s n b))[k] ≠ c) : openS s (C.sealL ((bytesF (boxS s n b)).set k c)) = ([], 8) := by
  have hp := pkU_le (b := b) (by omega)
  have hl := box_len s n b
  have hf := from_bytes (boxS s n b)
  obtain ⟨Y, hY⟩ : ∃ Y, Y = bytesF (boxS s n b) := ⟨_, rfl⟩
  simp only [← hY] at hl hf hk h ⊢
  have e1 : (fromF (Y.set k c)).n = (fromF Y).n := by
    show of8 ((Y.set k c).take 8) = of8 (Y.take 8)
    have := set_cut Y k 0 8 c (.inr (by omega))
    simp only [List.drop_zero] at this
    rw [this]
  have e2 : (fromF (Y.set k c)).text = (fromF Y).text := by
    show (Y.set k c).drop 24 = Y.drop 24
    rw [List.drop_set, if_pos h24]
  have e3 : (fromF (Y.set k c)).tag ≠ (fromF Y).tag := by
    show ofF (((Y.set k c).drop 8).take 16) ≠ ofF ((Y.drop 8).take 16)
    intro e
    have g1 := octs_of (l := ((Y.set k c).drop 8).take 16) (by rw [List.length_take, List.length_drop, List.length_set]; omega)
    have g2 := octs_of (l := (Y.drop 8).take 16) (by rw [List.length_take, List.length_drop]; omega)
    have g3 : ((Y.set k c).drop 8).take 16 = (Y.drop 8).take 16 := by rw [← g1, ← g2, e]
    have g4 := congrArg (fun l => l[k - 8]?) g3
    simp only [List.getElem?_take, List.getElem?_drop, show k - 8 < 16 by omega, if_true, show 8 + (k - 8) = k by omega] at g4
    rw [List.getElem?_set_self hk, List.getElem?_eq_getElem hk] at g4
    injection g4 with g4
    exact h g4.symm
  have hi : innerS s (Y.set k c) = ([], 8) := by
    unfold innerS
    rw [List.length_set, if_neg (by omega), if_neg (by omega), e1, e2, if_neg]
    intro e
    rw [sameS_iff] at e
    apply e3
    rw [← e, hf]
    rfl
  unfold openS
  have hsl := C.sealL_len (Y.set k c)
  rw [List.length_set] at hsl
  rw [if_neg (by omega), sum_seal, if_neg (by simp), hi, if_pos (by decide)]

/-! ### rows that are written -/
theorem bs_row {w : World} {base n : Nat} {v : Value} {l : List UInt8} (h : w.ownsRow base 5 1 v n (l.map u8v)) : Bs 0 w.heap.size w v l := by
  obtain rfl := own_nn h
  exact Bs.of_own0 h
theorem row_pos {w : World} {base n c : Nat} {A : Option Addr} {xs : List Value} (h : w.ownsRow base 5 1 (.slice A n c) n xs) (h0 : 0 < n) : ∃ g cur, A = some ⟨g, 0, none⟩ ∧ base ≤ g ∧ Blk w g 5 cur := by
  rcases h.2 with ⟨e, _⟩ | ⟨g, cap, cur, e, hb, hg, _⟩
  · injection e with _ e _; omega
  · injection e with e1 _ _
    exact ⟨g, cur, e1, hb, hg⟩
theorem row_cell {w : World} {base n c g : Nat} {l : List UInt8} (h : w.ownsRow base 5 1 (.slice (some ⟨g, 0, none⟩) n c) n (l.map u8v)) (k : Nat) (hk : k < l.length) : w.cell? ⟨g, k, none⟩ = some (u8v l[k]) := by
  have hn := own_nn h
  have := World.ownsRow.cellAt (w := w) (base := base) (e := 5) (size := 1) (g := g) (n := n) (cap := c) (xs := l.map u8v) h k (by omega)
  rw [this]
  simp [hk]
theorem row_put {w : World} {base n c g k : Nat} {l : List UInt8} (h : w.ownsRow base 5 1 (.slice (some ⟨g, 0, none⟩) n c) n (l.map u8v)) (x : UInt8) : (w.setCell ⟨g, k, none⟩ (u8v x)).ownsRow base 5 1 (.slice (some ⟨g, 0, none⟩) n c) n ((l.set k x).map u8v) := by
  rw [List.map_set]
  exact P.own_put h (u8v x)
/-- An octet of a row is written: the key's block stays, and another row of octets that lies above. -/
theorem told_put {w W : World} {s : St} {n : Nx} {g k mz c2 b1 b2 mw : Nat} {Z Y : List UInt8} {vw : Value} (X : Fx w W [(w.heap.size, 27, rgC s n)] [] []) (hg : w.heap.size < g)
    (o : W.ownsRow b1 5 1 (.slice (some ⟨g, 0, none⟩) mz c2) mz (Z.map u8v)) (q : W.ownsRow b2 5 1 vw mw (Y.map u8v)) (hgb : g < b2) (x : UInt8) :
    Fx w (W.setCell ⟨g, k, none⟩ (u8v x)) [(w.heap.size, 27, rgC s n)] [] [(.slice (some ⟨g, 0, none⟩) mz c2, Z.set k x), (vw, Y)] := by
  refine ⟨X.bl.setCell (Nat.le_of_lt hg) _, fun p hp => ?_, fun _ hp => (nomatch hp), fun p hp => ?_⟩
  · rw [List.mem_singleton.1 hp]
    exact (X.get 0 rfl).far (by show w.heap.size ≠ g; omega) _
  · simp only [List.mem_cons, List.not_mem_nil, or_false] at hp
    rcases hp with rfl | rfl
    · exact bs_row (row_put o x)
    · exact bs_row (ownsRow_setCell' q (show g < b2 from hgb) _)
theorem told_put1 {w W : World} {s : St} {n : Nx} {g k mz c2 b1 : Nat} {Z : List UInt8} (X : Fx w W [(w.heap.size, 27, rgC s n)] [] []) (hg : w.heap.size < g)
    (o : W.ownsRow b1 5 1 (.slice (some ⟨g, 0, none⟩) mz c2) mz (Z.map u8v)) (x : UInt8) :
    Fx w (W.setCell ⟨g, k, none⟩ (u8v x)) [(w.heap.size, 27, rgC s n)] [] [(.slice (some ⟨g, 0, none⟩) mz c2, Z.set k x)] := by
  refine ⟨X.bl.setCell (Nat.le_of_lt hg) _, fun p hp => ?_, fun _ hp => (nomatch hp), fun p hp => ?_⟩
  · rw [List.mem_singleton.1 hp]
    exact (X.get 0 rfl).far (by show w.heap.size ≠ g; omega) _
  · rw [List.mem_singleton.1 hp]
    exact bs_row (row_put o x)
end Go.Proofs.YthkccpemgmpadaaDoor
