import Derived.Test.YtdnahdogohdmjaaW13
namespace Go.Proofs.Ytdnahdogohdmjaa
open Go.RowKit
set_option maxRecDepth 100000

theorem Fs.mk {lo hi : Nat} {w : World} {A : Option Addr} {n c : Nat} {l : List Nat} (hn : n = l.length) (h1 : n ≤ c) (h2 : c ≤ 9223372036854775807)
    (h3 : 0 < n → ∃ b off, A = some ⟨b, off, none⟩ ∧ lo ≤ b ∧ b < hi ∧ ∀ i (h : i < l.length), w.cell? ⟨b, off + i, none⟩ = some (.float .f64 l[i])) : Fs lo hi w (.slice A n c) l := by
  subst hn
  refine ⟨A, c, rfl, h1, h2, fun h0 => ?_⟩
  obtain ⟨b, off, e, g1, g2, g3⟩ := h3 h0
  refine ⟨b, off, e, g1, g2, fun i hi j u hu => ?_⟩
  have hj : j < 1 := (List.getElem?_eq_some_iff.1 hu).1
  obtain rfl : j = 0 := by omega
  have hu' : some (Value.float .f64 l[i]) = some u := hu
  rw [Nat.mul_one, Nat.add_zero, g3 i hi, hu']
theorem Fs.get {lo hi : Nat} {w : World} {A : Option Addr} {n c : Nat} {l : List Nat} (h : Fs lo hi w (.slice A n c) l) : n = l.length ∧ n ≤ c ∧ c ≤ 9223372036854775807 ∧
    (0 < n → ∃ b off, A = some ⟨b, off, none⟩ ∧ lo ≤ b ∧ b < hi ∧ ∀ i (h : i < l.length), w.cell? ⟨b, off + i, none⟩ = some (.float .f64 l[i])) := by
  obtain ⟨A', c', e, h1, h2, h3⟩ := h
  injection e with e1 e2 e3
  subst e1 e2 e3
  refine ⟨rfl, h1, h2, fun h0 => ?_⟩
  obtain ⟨b, off, e, g1, g2, g3⟩ := h3 h0
  refine ⟨b, off, e, g1, g2, fun i hi => ?_⟩
  have := g3 i hi 0 (.float .f64 l[i]) rfl
  rwa [Nat.mul_one, Nat.add_zero] at this
theorem add_none (b off i : Nat) : (⟨b, off, none⟩ : Addr).add i = ⟨b, off + i, none⟩ := by
  unfold Addr.add
  split
  · rename_i h; subst h; rfl
  · rfl
theorem elem33 : Try.prog.underlying 33 = some (.slice (Try.prog.elem 33)) := by kernel_rfl
theorem size22e : ∀ W, (sizeOf (Try.prog.elem 33)).run Try.prog W = .ok 1 W := fun W => by kernel_rfl
theorem slice_h (A : Option Addr) (n c j : Nat) (hj : j ≤ c) (W : World) :
    (Instr.slice 33 (.slice A n c) none (some (.int .i64 (j : Int))) none).run Try.prog W = .ok (sliced A 0 j c 1) W := by
  rw [run_slice_h (P := Try.prog) W 33 A n c elem33 .i64 j (by omega) (by omega), size22e]
  simp [Result.andThen]
theorem slice_l (A : Option Addr) (n c i : Nat) (hi : i ≤ n) (W : World) :
    (Instr.slice 33 (.slice A n c) (some (.int .i64 (i : Int))) none none).run Try.prog W = .ok (sliced A i n c 1) W := by
  rw [run_slice_l (P := Try.prog) W 33 A n c elem33 .i64 i (by omega) (by omega), size22e]
  simp [Result.andThen]
theorem Fs.part {lo hi : Nat} {w : World} {A : Option Addr} {n c : Nat} {l : List Nat} (h : Fs lo hi w (.slice A n c) l) (i j : Nat) (hij : i ≤ j) (hj : j ≤ l.length) :
    ∃ A', sliced A i j c 1 = .slice A' (j - i) (c - i) ∧ Fs lo hi w (.slice A' (j - i) (c - i)) ((l.drop i).take (j - i)) := by
  obtain ⟨e0, h1, h2, h3⟩ := h.get
  refine ⟨if c = i then A else A.map (·.add (i * 1)), rfl, ?_⟩
  have hlen : ((l.drop i).take (j - i)).length = j - i := by rw [List.length_take, List.length_drop]; omega
  refine Fs.mk hlen.symm (by omega) (by omega) fun h0 => ?_
  obtain ⟨b, off, rfl, hb, hb', hc⟩ := h3 (by omega)
  refine ⟨b, off + i, ?_, hb, hb', fun k hk => ?_⟩
  · rw [if_neg (by omega), Nat.mul_one, Option.map_some, add_none]
  · rw [hlen] at hk
    have := hc (i + k) (by omega)
    rw [← Nat.add_assoc] at this
    rw [this]
    simp
theorem Fs.cut_h {lo hi : Nat} {w : World} {A : Option Addr} {n c : Nat} {l : List Nat} (h : Fs lo hi w (.slice A n c) l) (j : Nat) (hj : j ≤ l.length) :
    ∃ A' c', (∀ W, (Instr.slice 33 (.slice A n c) none (some (.int .i64 (j : Int))) none).run Try.prog W = .ok (.slice A' j c') W) ∧ Fs lo hi w (.slice A' j c') (l.take j) := by
  obtain ⟨A', e, hb⟩ := h.part 0 j (Nat.zero_le _) hj
  obtain ⟨e0, h1, _⟩ := h.get
  exact ⟨A', c, fun W => by rw [slice_h A n c j (by omega), e]; rfl, hb⟩
theorem Fs.cut_l {lo hi : Nat} {w : World} {A : Option Addr} {n c : Nat} {l : List Nat} (h : Fs lo hi w (.slice A n c) l) (i : Nat) (hi' : i ≤ l.length) :
    ∃ A' c', (∀ W, (Instr.slice 33 (.slice A n c) (some (.int .i64 (i : Int))) none none).run Try.prog W = .ok (.slice A' (l.length - i) c') W) ∧ Fs lo hi w (.slice A' (l.length - i) c') (l.drop i) := by
  obtain ⟨A', e, hb⟩ := h.part i l.length hi' (Nat.le_refl _)
  obtain ⟨e0, h1, _⟩ := h.get
  subst e0
  rw [List.take_of_length_le (by simp)] at hb
  exact ⟨A', c - i, fun W => by rw [slice_l A _ c i hi', e], hb⟩

/-! ### one more put where it belongs -/
def put (d : List Nat) (k f : Nat) : List Nat := d.take k ++ [f] ++ d.drop k
theorem put_len {d : List Nat} {k : Nat} (f : Nat) (h : k ≤ d.length) : (put d k f).length = d.length + 1 := by
  unfold put; simp; omega
theorem nth_put {d : List Nat} {k : Nat} (f : Nat) (h : k ≤ d.length) (i : Nat) : nth (put d k f) i = if i < k then nth d i else if i = k then f else nth d (i - 1) := by
  unfold nth put
  simp only [List.getD]
  by_cases h1 : i < k
  · rw [if_pos h1, List.append_assoc, List.getElem?_append_left (by simp; omega), List.getElem?_take, if_pos h1]
  · rw [if_neg h1]
    by_cases h2 : i = k
    · rw [if_pos h2, h2, List.append_assoc, List.getElem?_append_right (by simp; omega)]
      have : k - (d.take k).length = 0 := by simp; omega
      rw [this]; simp
    · rw [if_neg h2, List.getElem?_append_right (by simp; omega)]
      have : i - (d.take k ++ [f]).length = i - 1 - k := by simp; omega
      rw [this, List.getElem?_drop, show k + (i - 1 - k) = i - 1 by omega]
theorem put_ordered {l d : List Nat} {k f : Nat} (h : Ordered l d) (hk : k ≤ d.length) (hf : f < 18446744073709551616) (h1 : ∀ i, k ≤ i → i < d.length → keyF f ≤ ky d i) (h2 : k = 0 ∨ ky d (k - 1) ≤ keyF f) : Ordered (l ++ [f]) (put d k f) := by
  obtain ⟨a1, a2, a3, a4⟩ := h
  have hl := put_len f hk
  refine ⟨by rw [hl, a1]; simp, ?_, ?_, fun i => ?_⟩
  · refine List.Perm.trans (l₂ := (d.take k ++ d.drop k) ++ [f]) ?_ ?_
    · unfold put
      rw [List.append_assoc, List.append_assoc]
      exact (List.Perm.refl _).append List.perm_append_comm
    · rw [List.take_append_drop]; exact a2.append (.refl _)
  · rw [hl]
    intro i j g1 g2 g3
    unfold ky
    rw [nth_put f hk, nth_put f hk]
    by_cases i1 : i < k
    · rw [if_pos i1]
      by_cases j1 : j < k
      · rw [if_pos j1]; exact a3 i j g1 g2 (by omega)
      · rw [if_neg j1]
        have hik : keyF (nth d i) ≤ keyF f := by
          rcases h2 with h2 | h2
          · omega
          · rcases Nat.lt_or_ge i (k - 1) with q | q
            · exact Nat.le_trans (a3 i (k - 1) g1 q (by omega)) h2
            · rw [show i = k - 1 by omega]; exact h2
        by_cases j2 : j = k
        · rw [if_pos j2]; exact hik
        · rw [if_neg j2]; exact a3 i (j - 1) g1 (by omega) (by omega)
    · rw [if_neg i1, if_neg (c := j < k) (by omega), if_neg (c := j = k) (by omega)]
      by_cases i2 : i = k
      · rw [if_pos i2]; exact h1 (j - 1) (by omega) (by omega)
      · rw [if_neg i2]; exact a3 (i - 1) (j - 1) (by omega) (by omega) (by omega)
  · rw [nth_put f hk]
    split
    · exact a4 i
    · split
      · exact hf
      · exact a4 _
theorem cmpN_pos {x y : Nat} : 0 < cmpN x y ↔ y < x := by unfold cmpN; split; (· omega); split <;> omega
end Go.Proofs.Ytdnahdogohdmjaa
