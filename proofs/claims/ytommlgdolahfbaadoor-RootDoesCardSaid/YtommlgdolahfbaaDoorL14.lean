import Derived.Test.YtommlgdolahfbaaDoorW8
import Derived.Test.YtommlgdolahfbaaDoorW9
import Derived.Test.YtommlgdolahfbaaDoorW12
namespace Go.Proofs.YtommlgdolahfbaaDoor
set_option maxRecDepth 100000
open Go.RowKit

theorem keepG_get {α : Type} (cur : List α) (off : Nat) (pg : List α) (m : UInt8) (n : Nat) (h : off + 32 ≤ cur.length) (hp : pg.length = 32) (hn : n ≤ 8) (i : Nat) :
    (keepG cur off pg m n)[i]? = if off ≤ i ∧ i < off + n * 4 ∧ bitOf m ((i - off) / 4) = true then pg[i - off]? else cur[i]? := by
  induction n with
  | zero =>
    rw [if_neg (by omega)]
    rfl
  | succ n ih =>
    have ih := ih (by omega)
    have hl := keepG_length cur off pg m n h hp (by omega)
    have h4 : ((pg.drop (n * 4)).take 4).length = 4 := by rw [List.length_take, List.length_drop]; omega
    simp only [keepG]
    by_cases hb : bitOf m n = true
    · rw [if_pos hb, splice_get _ _ _ (by rw [h4, hl]; omega), h4]
      by_cases c1 : i < off + n * 4
      · rw [if_pos c1, ih]
        by_cases c2 : off ≤ i ∧ i < off + n * 4 ∧ bitOf m ((i - off) / 4) = true
        · rw [if_pos c2, if_pos ⟨c2.1, by omega, c2.2.2⟩]
        · rw [if_neg c2, if_neg (fun c3 => c2 ⟨c3.1, c1, c3.2.2⟩)]
      · rw [if_neg c1]
        by_cases c2 : i < off + n * 4 + 4
        · have e : (i - off) / 4 = n := by omega
          rw [if_pos c2, if_pos ⟨by omega, by omega, by rw [e]; exact hb⟩, List.getElem?_take, if_pos (by omega), List.getElem?_drop]
          congr 1
          omega
        · rw [if_neg c2, ih, if_neg (by omega), if_neg (by omega)]
    · rw [if_neg hb, ih]
      by_cases c2 : off ≤ i ∧ i < off + n * 4 ∧ bitOf m ((i - off) / 4) = true
      · rw [if_pos c2, if_pos ⟨c2.1, by omega, c2.2.2⟩]
      · rw [if_neg c2, if_neg]
        rintro ⟨c3, c4, c5⟩
        by_cases c6 : i < off + n * 4
        · exact c2 ⟨c3, c6, c5⟩
        · have e : (i - off) / 4 = n := by omega
          rw [e] at c5
          exact hb c5

/-- Pages of a disk that may be. -/
def PgsOk (dry : List UInt8) (wet : List Pg) : Prop := Rises wet ∧ ∀ (j : Nat) (q : Pg), wet[j]? = some q → 0 ≤ q.at_ ∧ q.at_ < ((dry.length / 32 : Nat) : Int) ∧ q.b.length = 32

/-- A sector without a page among the first 'k' stays. -/
theorem crAt_none {dry : List UInt8} {wet : List Pg} {ms : List UInt8} (h : PgsOk dry wet) (a : Nat) (k : Nat) (hn : ∀ (j : Nat) (q : Pg), j < k → wet[j]? = some q → q.at_ ≠ (a : Int)) (i : Nat) (hi : i / 32 = a) : (crAt dry wet ms k)[i]? = dry[i]? := by
  induction k with
  | zero => rfl
  | succ k ih =>
    have ih := ih (fun j q hj => hn j q (by omega))
    simp only [crAt]
    split
    · rename_i p m hp _
      obtain ⟨a0, a1, a2⟩ := h.2 k p hp
      have hne := hn k p (by omega) hp
      rw [keepG_get _ _ _ _ _ (by rw [crAt_length dry wet ms k h.2]; omega) a2 (by omega), if_neg (by omega), ih]
    · exact ih

/-- A sector with a page: its groups, where the mask has bits. -/
theorem crAt_some {dry : List UInt8} {wet : List Pg} {ms : List UInt8} (h : PgsOk dry wet) (j : Nat) (q : Pg) (m : UInt8) (hq : wet[j]? = some q) (hm : ms[j]? = some m) (k : Nat) (hk : j < k) (i : Nat) (hi : (i / 32 : Nat) = q.at_.toNat) :
    (crAt dry wet ms k)[i]? = if bitOf m (i % 32 / 4) = true then q.b[i % 32]? else dry[i]? := by
  induction k with
  | zero => omega
  | succ k ih =>
    obtain ⟨b0, b1, b2⟩ := h.2 j q hq
    have e1 : i - q.at_.toNat * 32 = i % 32 := by omega
    by_cases hjk : j = k
    · subst hjk
      rw [crAt_succ hq hm, keepG_get _ _ _ _ _ (by rw [crAt_length dry wet ms j h.2]; omega) b2 (by omega), e1]
      have h0 : (crAt dry wet ms j)[i]? = dry[i]? := crAt_none h q.at_.toNat j (fun j' q' hj' hq' he => by
        obtain ⟨x, hx⟩ := List.getElem?_eq_some_iff.1 hq'
        obtain ⟨y, hy⟩ := List.getElem?_eq_some_iff.1 hq
        have := h.1 j' j x y hj'
        rw [hx, hy] at this
        omega) i hi
      rw [h0]
      by_cases c : bitOf m (i % 32 / 4) = true
      · rw [if_pos c, if_pos ⟨by omega, by omega, c⟩]
      · rw [if_neg c, if_neg (fun c2 => c c2.2.2)]
    · have ih := ih (by omega)
      simp only [crAt]
      split
      · rename_i p m' hp _
        obtain ⟨a0, a1, a2⟩ := h.2 k p hp
        obtain ⟨x, hx⟩ := List.getElem?_eq_some_iff.1 hq
        obtain ⟨y, hy⟩ := List.getElem?_eq_some_iff.1 hp
        have := h.1 j k x y (by omega)
        rw [hx, hy] at this
        rw [keepG_get _ _ _ _ _ (by rw [crAt_length dry wet ms k h.2]; omega) a2 (by omega), if_neg (by omega), ih]
      · exact ih

theorem okD_ok {d : Dk} (h : okD d = true) : PgsOk d.dry d.wet := by
  obtain ⟨_, _, _, _, a, b⟩ := okD_parts h
  exact ⟨a, b⟩

theorem ok_bare {d : Dk} (h : okD d = true) (L : List UInt8) (hL : L.length = d.dry.length) : okD ⟨L, [], -1⟩ = true := by
  obtain ⟨a, b, c, _⟩ := okD_parts h
  simp only [okD, hL, Bool.and_eq_true, decide_eq_true_eq]
  exact ⟨⟨⟨⟨a, b⟩, c⟩, by decide⟩, rfl⟩

theorem sector_bare (L : List UInt8) (l : Int) (at_ : Int) : sectorOf ⟨L, [], l⟩ at_ = (L.drop (at_.toNat * 32)).take 32 := rfl

theorem sec_get (L : List UInt8) (a t : Nat) : ((L.drop (a * 32)).take 32)[t]? = if t < 32 then L[a * 32 + t]? else none := by
  rw [List.getElem?_take, List.getElem?_drop]

/-- What is behind a crash in a sector, cell by cell. -/
theorem crash_cell {d : Dk} (h : okD d = true) (ms : List UInt8) (at_ : Int) (h0 : 0 ≤ at_) :
    (∀ t, t < 32 → (crAt d.dry d.wet ms (min d.wet.length ms.length))[at_.toNat * 32 + t]? = d.dry[at_.toNat * 32 + t]?) ∨
    (∃ (q : Pg) (m : UInt8) (j : Nat), d.wet[j]? = some q ∧ ms[j]? = some m ∧ sectorOf d at_ = q.b ∧ q.b.length = 32 ∧ ∀ t, t < 32 → (crAt d.dry d.wet ms (min d.wet.length ms.length))[at_.toNat * 32 + t]? = if bitOf m (t / 4) = true then q.b[t]? else d.dry[at_.toNat * 32 + t]?) := by
  have hp := okD_ok h
  by_cases hq : ∃ (j : Nat) (q : Pg), j < min d.wet.length ms.length ∧ d.wet[j]? = some q ∧ q.at_ = at_
  · obtain ⟨j, q, hj, hqj, hqa⟩ := hq
    obtain ⟨m, hm⟩ : ∃ m, ms[j]? = some m := ⟨_, List.getElem?_eq_getElem (by omega)⟩
    refine .inr ⟨q, m, j, hqj, hm, ?_, (hp.2 j q hqj).2.2, fun t ht => ?_⟩
    · unfold sectorOf
      have : d.wet.find? (fun p => decide (p.at_ = at_)) = some q := by
        rw [List.find?_eq_some_iff_getElem]
        obtain ⟨x, hx⟩ := List.getElem?_eq_some_iff.1 hqj
        refine ⟨by simpa using hqa, j, x, hx, fun j' hj' => ?_⟩
        have := hp.1 j' j (by omega) x hj'
        rw [hx] at this
        simp
        omega
      rw [this]
    · rw [crAt_some hp j q m hqj hm _ hj _ (by rw [hqa]; omega), show (at_.toNat * 32 + t) % 32 = t by omega]
  · refine .inl fun t ht => ?_
    exact crAt_none hp at_.toNat _ (fun j q hj hqj he => hq ⟨j, q, hj, hqj, by omega⟩) _ (by omega)

/-- Each group behind a crash is the old, or the new one. -/
theorem crash_group {d : Dk} (h : okD d = true) (ms : List UInt8) (at_ : Int) (h0 : 0 ≤ at_) (k : Nat) (hk : k < 8) (L : List UInt8) (hL : L = crAt d.dry d.wet ms (min d.wet.length ms.length)) :
    ((sectorOf ⟨L, [], -1⟩ at_).drop (4 * k)).take 4 = ((sectorOf ⟨d.dry, [], -1⟩ at_).drop (4 * k)).take 4 ∨ ((sectorOf ⟨L, [], -1⟩ at_).drop (4 * k)).take 4 = ((sectorOf d at_).drop (4 * k)).take 4 := by
  subst hL
  have ext : ∀ (A B : List UInt8), (∀ t, t < 4 → A[4 * k + t]? = B[4 * k + t]?) → (A.drop (4 * k)).take 4 = (B.drop (4 * k)).take 4 := by
    intro A B hAB
    apply List.ext_getElem?
    intro t
    rw [List.getElem?_take, List.getElem?_take]
    split
    · rw [List.getElem?_drop, List.getElem?_drop]; exact hAB t (by assumption)
    · rfl
  rw [sector_bare, sector_bare]
  rcases crash_cell h ms at_ h0 with hc | ⟨q, m, j, hq, hm, hs, h32, hc⟩
  · left
    refine ext _ _ fun t ht => ?_
    rw [sec_get, sec_get, if_pos (by omega), if_pos (by omega), hc _ (by omega)]
  · by_cases hb : bitOf m k = true
    · right
      refine ext _ _ fun t ht => ?_
      rw [sec_get, if_pos (by omega), hc _ (by omega), show (4 * k + t) / 4 = k by omega, if_pos hb, hs]
    · left
      refine ext _ _ fun t ht => ?_
      rw [sec_get, sec_get, if_pos (by omega), if_pos (by omega), hc _ (by omega), show (4 * k + t) / 4 = k by omega, if_neg hb]

/-- With all kept, all is as it was read. -/
theorem crash_all {d : Dk} (h : okD d = true) (at_ : Int) (h0 : 0 ≤ at_) (_h1 : at_ < ((d.dry.length / 32 : Nat) : Int)) (L : List UInt8) (hL : L = crAt d.dry d.wet (List.replicate d.wet.length 255) (min d.wet.length (List.replicate d.wet.length (255 : UInt8)).length)) :
    sectorOf ⟨L, [], -1⟩ at_ = sectorOf d at_ := by
  subst hL
  rw [sector_bare]
  have hp := okD_ok h
  have bits : ∀ k, k < 8 → bitOf 255 k = true := by decide
  rcases crash_cell h (List.replicate d.wet.length 255) at_ h0 with hc | ⟨q, m, j, hq, hm, hs, h32, hc⟩
  · cases hf : d.wet.find? (fun p => decide (p.at_ = at_)) with
    | none =>
      have : sectorOf d at_ = (d.dry.drop (at_.toNat * 32)).take 32 := by unfold sectorOf; rw [hf]
      rw [this]
      apply List.ext_getElem?
      intro t
      rw [sec_get, sec_get]
      split
      · exact hc t (by assumption)
      · rfl
    | some q =>
      have hs : sectorOf d at_ = q.b := by unfold sectorOf; rw [hf]
      obtain ⟨hqa, j, x, hx, _⟩ := List.find?_eq_some_iff_getElem.1 hf
      have hqj : d.wet[j]? = some q := by rw [List.getElem?_eq_getElem x, hx]
      have hm : (List.replicate d.wet.length (255 : UInt8))[j]? = some 255 := by rw [List.getElem?_replicate, if_pos x]
      have h32 := (hp.2 j q hqj).2.2
      rw [hs]
      apply List.ext_getElem?
      intro t
      rw [sec_get]
      split
      · have hq' : q.at_ = at_ := by simpa using hqa
        rw [crAt_some hp j q 255 hqj hm _ (by simp; omega) _ (by rw [hq']; omega), show (at_.toNat * 32 + t) % 32 = t by omega, if_pos (bits _ (by omega))]
      · rw [List.getElem?_eq_none (by omega)]
  · rw [hs]
    apply List.ext_getElem?
    intro t
    rw [sec_get]
    split
    · rw [List.getElem?_replicate] at hm
      split at hm
      · injection hm with hm
        subst hm
        rw [hc t (by assumption), if_pos (bits _ (by omega))]
      · cases hm
    · rw [List.getElem?_eq_none (by omega)]

end Go.Proofs.YtommlgdolahfbaaDoor
