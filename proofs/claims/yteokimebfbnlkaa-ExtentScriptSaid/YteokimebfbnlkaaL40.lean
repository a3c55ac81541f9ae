import Derived.Test.YteokimebfbnlkaaL31
namespace Go.Proofs.Yteokimebfbnlkaa
open Go.RowKit

theorem cnt_le (l : List Ex) (i : Int) : cnt l i ≤ l.length := by
  induction l with
  | nil => exact Nat.le_refl _
  | cons s r ih => simp only [cnt, List.length_cons]; split <;> omega
theorem cnt_okF {size a : Int} {l : List Ex} (h : okF size a l = true) (i : Int) : (mem l i → cnt l i = 1) ∧ (¬ mem l i → cnt l i = 0) := by
  induction l generalizing a with
  | nil => exact ⟨fun hm => absurd hm mem_nil, fun _ => rfl⟩
  | cons f r ih =>
    rw [okF_cons] at h
    obtain ⟨ih1, ih2⟩ := ih h.2.2
    simp only [cnt, mem_cons]
    by_cases hf : inE f i
    · have hr : ¬ mem r i := fun hm => by
        have := mem_low h.2.2 hm
        unfold inE at hf; omega
      rw [ih2 hr]
      unfold inE at hf
      simp [hf, inE]
    · have hf' := hf
      unfold inE at hf'
      rw [if_neg hf']
      exact ⟨fun hm => by rw [ih1 (hm.resolve_left hf)], fun hm => by rw [ih2 (fun q => hm (.inr q))]⟩
theorem okX_len2 {x : Xs} (h : okX x = true) : (x.free.length : Int) ≤ x.size + 1 := by
  obtain ⟨h1, h2, h3⟩ := okX_iff.1 h
  have := okF_len h3 (by omega)
  omega
theorem newX_ok {n : Int} (h : sizeB n = true) : okX (newX n) = true ∧ (newX n).size = n ∧ ∀ i, mem (newX n).free i ↔ 0 ≤ i ∧ i < n := by
  have hb : 0 ≤ n ∧ n ≤ 8192 := by simpa [sizeB] using h
  unfold newX
  split
  · refine ⟨okX_iff.2 ⟨hb.1, hb.2, ?_⟩, rfl, fun i => ?_⟩
    · rw [okF_cons]; exact ⟨⟨by simp, by simp; omega, by simp⟩, by simp, rfl⟩
    · simp only [mem_cons]
      constructor
      · rintro (h | h)
        · unfold inE at h; simp at h; omega
        · exact absurd h mem_nil
      · intro h; left; unfold inE; simp; omega
  · refine ⟨okX_iff.2 ⟨hb.1, hb.2, rfl⟩, rfl, fun i => ⟨fun h => absurd h mem_nil, fun h => by omega⟩⟩
theorem Inv.all {n : Int} {y : Xs} {os : List Ex} (h : Inv (newX n) y os) (hn : sizeB n = true) {i : Int} (h0 : 0 ≤ i) (h1 : i < n) : cnt (os ++ y.free) i = 1 := by
  obtain ⟨_, _, hm⟩ := newX_ok hn
  obtain ⟨c1, c0⟩ := cnt_okF (okX_iff.1 h.oky).2.2 i
  rw [cnt_append]
  rcases h.yes i ((hm i).2 ⟨h0, h1⟩) with ⟨a, b⟩ | ⟨a, b⟩
  · rw [c1 a, b]
  · rw [c0 a, b]
theorem Inv.eachAll {n : Int} {y : Xs} {os : List Ex} (h : Inv (newX n) y os) (hn : sizeB n = true) : ∀ s ∈ os ++ y.free, 0 ≤ s.at_ ∧ 1 ≤ s.len ∧ s.at_ + s.len ≤ n := by
  obtain ⟨_, hs, _⟩ := newX_ok hn
  intro s hm
  rcases List.mem_append.1 hm with h1 | h1
  · have := h.each s h1
    rw [hs] at this
    exact isOfB_iff.1 this
  · obtain ⟨p, q, e⟩ := List.append_of_mem h1
    have h2 := (okX_iff.1 h.oky).2.2
    rw [e] at h2
    obtain ⟨_, _, a, b, c, _⟩ := okF_at h2
    rw [h.size, hs] at c
    exact ⟨a, b, c⟩

/-- The owners' cells behind some extents. -/
def ownC (n : Nat) (L : List Ex) : List Value := (List.range n).map fun (t : Nat) => Value.int .i64 (cnt L t : Int)
/-- .. and behind the first 'j' sectors of one more. -/
def inC (n : Nat) (L : List Ex) (s : Ex) (j : Int) : List Value := (List.range n).map fun (t : Nat) => Value.int .i64 ((cnt L t + (if s.at_ ≤ (t : Int) ∧ (t : Int) < s.at_ + j then 1 else 0) : Nat) : Int)
theorem ownC_len (n : Nat) (L : List Ex) : (ownC n L).length = n := by simp [ownC]
theorem inC_len (n : Nat) (L : List Ex) (s : Ex) (j : Int) : (inC n L s j).length = n := by simp [inC]
theorem ownC_nil (n : Nat) : ownC n [] = List.replicate n (.int .i64 0) := by
  apply List.ext_getElem
  · simp [ownC]
  · intro i h1 h2; simp [ownC, cnt]
theorem inC_zero (n : Nat) (L : List Ex) (s : Ex) : inC n L s 0 = ownC n L := by
  unfold inC ownC
  apply List.map_congr_left
  intro t _
  rw [if_neg (by omega)]; simp
theorem inC_all (n : Nat) (L : List Ex) (s : Ex) : inC n L s s.len = ownC n (L ++ [s]) := by
  unfold inC ownC
  apply List.map_congr_left
  intro t _
  rw [cnt_append]
  simp only [cnt]
  rfl
theorem inC_get (n : Nat) (L : List Ex) (s : Ex) (j : Int) (t : Nat) (ht : t < n) (hs : s.at_ + j ≤ t) : (inC n L s j)[t]? = some (.int .i64 (cnt L t : Int)) := by
  unfold inC
  rw [List.getElem?_map, List.getElem?_range ht]
  simp only [Option.map_some]
  rw [if_neg (by omega)]
  rfl
theorem inC_at (n : Nat) (L : List Ex) (s : Ex) (j : Int) (i : Nat) (hi : i < n) : (inC n L s j)[i]? = some (.int .i64 ((cnt L i + (if s.at_ ≤ (i : Int) ∧ (i : Int) < s.at_ + j then 1 else 0) : Nat) : Int)) := by
  unfold inC
  rw [List.getElem?_map, List.getElem?_range hi]; rfl
theorem inC_set (n : Nat) (L : List Ex) (s : Ex) (j : Int) (t : Nat) (h0 : 0 ≤ j) (ht : s.at_ + j = t) : (inC n L s j).set t (.int .i64 ((cnt L t : Int) + 1)) = inC n L s (j + 1) := by
  apply List.ext_getElem?
  intro i
  rw [List.getElem?_set]
  by_cases hi : i < n
  · rw [inC_at n L s (j + 1) i hi, inC_at n L s j i hi]
    by_cases e : t = i
    · subst e
      rw [if_pos rfl, if_pos (by rw [inC_len]; exact hi), if_pos (by omega)]
      simp
    · rw [if_neg e]
      by_cases hc : s.at_ ≤ (i : Int) ∧ (i : Int) < s.at_ + j
      · rw [if_pos hc, if_pos (by omega)]
      · rw [if_neg hc, if_neg (by omega)]
  · rw [List.getElem?_eq_none (by rw [inC_len]; omega)]
    split
    · rw [if_neg (by rw [inC_len]; omega), List.getElem?_eq_none (by rw [inC_len]; omega)]
    · rw [List.getElem?_eq_none (by rw [inC_len]; omega)]
theorem ownC_get (n : Nat) (L : List Ex) (t : Nat) (ht : t < n) : (ownC n L)[t]? = some (.int .i64 (cnt L t : Int)) := by
  unfold ownC
  rw [List.getElem?_map, List.getElem?_range ht]; rfl
theorem made_own (n : Nat) : madeCells (Value.int .i64 0).cells (n * 1) = (ownC n []).toArray := by
  have hz : (madeCells (Value.int .i64 0).cells (n * 1)).toList = List.replicate (n * 1) (.int .i64 0) := toList_madeCells_one _ _
  rw [← Array.toArray_toList (xs := madeCells (Value.int .i64 0).cells (n * 1)), hz, ownC_nil]
  simp
theorem info3 : (Try.prog.info? 3).map (fun i => (i.zero, i.size, i.bytes)) = some (some (.int .i64 0), 1, 8) := by kernel_rfl

/-- The numbers' cells (int16). -/
def Hs (lo hi : Nat) (w : World) (v : Value) (l : List Int) : Prop := Sl 1 (fun _ cs z => cs = [.int .i16 z]) lo hi w v l
theorem Hs.open {lo hi : Nat} {w : World} {v : Value} {l : List Int} (h : Hs lo hi w v l) : ∃ A c, v = .slice A l.length c ∧ l.length ≤ c ∧ c ≤ 9223372036854775807 ∧
    ∀ k (hk : k < l.length), ∃ b off, A = some ⟨b, off, none⟩ ∧ lo ≤ b ∧ b < hi ∧ w.cell? ⟨b, off + k, none⟩ = some (.int .i16 l[k]) := by
  obtain ⟨A, c, rfl, h1, h2, h3, h4⟩ := h
  refine ⟨A, c, rfl, h1, h2, fun k hk => ?_⟩
  obtain ⟨b, off, rfl, hb, hb'⟩ := h3 (by omega)
  obtain ⟨cs, hl, hc, hr⟩ := h4 b off rfl k hk
  refine ⟨b, off, rfl, hb, hb', ?_⟩
  have := hc 0 (by omega)
  simpa [hr] using this

theorem giveV2 {w wr wc : World} {g9 : Nat} {v x y p q : Value} {os : List Ex} {A3 : Option Addr} {n c3 : Nat} {l : List Ex}
    (ho : wr.ownsRow w.heap.size 26 2 v os.length (os.flatMap exv)) (hb : Below wr.heap.size wr wc) (M9 : Blk wc g9 24 #[p, q])
    (hE : Exs wr.heap.size wc.heap.size wc (.slice A3 n c3) l) (bw : Below w.heap.size w wr) (y9 : g9 < wr.heap.size) (hwg : w.heap.size ≤ g9) :
    ∀ V, V = (wc.setCell ⟨g9, 0, none⟩ x).setCell ⟨g9, 1, none⟩ y →
    V.ownsRow w.heap.size 26 2 v os.length (os.flatMap exv) ∧ Blk V g9 24 #[x, y] ∧ Exs wr.heap.size V.heap.size V (.slice A3 n c3) l ∧ Below w.heap.size w V ∧ (∀ k, v.ownBlock = some k → k < wr.heap.size) ∧ wr.heap.size ≤ V.heap.size := by
  intro V hV
  subst hV
  refine ⟨own_set2 (own_below ho hb (Nat.le_refl _)) M9 (by decide), M9.set2, ?_, ?_, own_lt ho, by simpa using hb.size⟩
  · have hk : Agree wr.heap.size wc.heap.size wc ((wc.setCell ⟨g9, 0, none⟩ x).setCell ⟨g9, 1, none⟩ y) := by
      intro k hk1 hk2
      exact (Below.heap_setCell _ _ _ _ (by simp; omega)).trans (Below.heap_setCell _ _ _ _ (by simp; omega))
    exact (hE.keep hk).mono (Nat.le_refl _) (by simp)
  · exact ((bl_call bw hb).setCell (by simp; omega) _).setCell (by simp; omega) _
theorem giveEnd2 {w V0 w5 w6 : World} {lo g9 n c3 : Nat} {A3 : Option Addr} {l : List Ex} {v5 v6 : Value} {cs : Array Value} (NE : Exs lo V0.heap.size V0 (.slice A3 n c3) l) (N9 : Blk V0 g9 24 cs) (NB : Below w.heap.size w V0)
    (hg5 : V0.drew.grownBy w5 none) (hl5 : v5.ownBlock = (Value.slice none 0 0).ownBlock ∨ v5.ownBlock = some V0.drew.heap.size) (hg6 : w5.grownBy w6 v5.ownBlock) (hl6 : v6.ownBlock = v5.ownBlock ∨ v6.ownBlock = some w5.heap.size) :
    Exs 0 w6.heap.size w6 (.slice A3 n c3) l ∧ Apart A3 n v6 ∧ Blk w6 g9 24 cs ∧ Below w.heap.size w w6 := by
  have h5 : ∀ k, v5.ownBlock = some k → V0.heap.size ≤ k := by
    intro k hk
    rcases hl5 with h | h
    · rw [h] at hk; cases hk
    · rw [h] at hk; injection hk with hk; exact Nat.le_of_eq hk
  have z5 : V0.heap.size ≤ w5.heap.size := hg5.size
  have h6 : ∀ k, v6.ownBlock = some k → V0.heap.size ≤ k := by
    intro k hk
    rcases hl6 with h | h
    · rw [h] at hk; exact h5 k hk
    · rw [h] at hk; injection hk with hk; omega
  have AG : Agree lo V0.heap.size V0.drew w6 := Agree.grown (Agree.grown (Agree.refl _ _ _) hg5 (Nat.le_refl _) (fun k hk => by cases hk)) hg6 z5 (fun k hk => .inr (h5 k hk))
  have NE' : Exs lo V0.heap.size V0.drew (.slice A3 n c3) l := NE
  refine ⟨(NE'.keep AG).mono (Nat.zero_le _) (Nat.le_trans z5 hg6.size), Apart.fresh NE (fun k hk => .inr (h6 k hk)), ?_, ?_⟩
  · exact Blk.grown (Blk.grown N9.drew hg5 (fun e => by cases e)) hg6 (fun e => by have := h5 _ e.symm; have := N9.lt; omega)
  · exact bl_grown (bl_grown (Below.drew NB) hg5 (fun k hk => by cases hk)) hg6 (fun k hk => Nat.le_trans NB.size (h5 k hk))
end Go.Proofs.Yteokimebfbnlkaa
