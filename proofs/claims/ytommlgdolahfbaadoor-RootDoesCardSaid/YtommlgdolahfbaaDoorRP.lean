import Derived.Test.YtommlgdolahfbaaDoorRJ
import Derived.Test.YtommlgdolahfbaaDoorL21
import Derived.Test.YtommlgdolahfbaaDoorL14
namespace Go.Proofs.YtommlgdolahfbaaDoor
set_option maxRecDepth 100000
open Go.RowKit

/-! ### what is found: of two sectors alone -/
theorem atR_ok (d : Dk) (i : Nat) : atR d i = noRt ∨ (rOk (atR d i) = true ∧ (atR d i).gen % 2 = i ∧ (rdD d i).2 = 0 ∧ ofB (rdD d i).1 = true ∧ atR d i = ofR (rdD d i).1) := by
  unfold atR
  split
  · rename_i h
    right
    refine ⟨?_, h.2.2, h.1, h.2.1, rfl⟩
    unfold ofR
    rw [if_pos h.2.1]
    exact (ofB_iff.1 h.2.1).1
  · exact .inl rfl
theorem rOk_gen {r : Rt} (h : rOk r = true) : 1 ≤ r.gen := (rOk_iff.1 h).1
theorem best_two (d : Dk) : bestR d 2 = if (atR d 0).gen < (atR d 1).gen then atR d 1 else atR d 0 := by
  have h1 : bestR d 1 = atR d 0 := by
    rw [bestR, bestR]
    rcases atR_ok d 0 with h | ⟨h, _⟩
    · rw [h]; split <;> rfl
    · rw [if_pos (by have := rOk_gen h; show 0 < _; omega)]
  rw [bestR, h1]
theorem atR_congr {d d' : Dk} {i : Nat} (h : rdD d i = rdD d' i) : atR d i = atR d' i := by unfold atR; rw [h]
theorem fdR_congr {d d' : Dk} (h : holdB d = holdB d') (h0 : rdD d (0 : Nat) = rdD d' (0 : Nat)) (h1 : rdD d (1 : Nat) = rdD d' (1 : Nat)) : fdR d = fdR d' := by
  unfold fdR
  rw [h, best_two, best_two, atR_congr h0, atR_congr h1]
theorem hold_parts {d : Dk} (h : holdB d = true) : okD d = true ∧ 64 < d.dry.length := by simpa [holdB] using h
theorem hold_has {d : Dk} (h : holdB d = true) {i : Nat} (hi : i < 2) : hasB d.dry.length (i : Int) = true := by
  have := (hold_parts h).2
  simp only [hasB, decide_eq_true_eq]
  omega
theorem hold_rd {d : Dk} (h : holdB d = true) {i : Nat} (hi : i < 2) : rdD d i = (sectorOf d i, 0) := by
  unfold rdD
  rw [(hold_parts h).1, hold_has h hi]; rfl

/-! ### a sector behind a write, a sync -/
theorem sector_len {d : Dk} (h : okD d = true) {i : Nat} (hi : hasB d.dry.length (i : Int) = true) : (sectorOf d i).length = 32 := by
  simp only [hasB, decide_eq_true_eq] at hi
  unfold sectorOf
  cases hf : d.wet.find? (fun p => decide (p.at_ = (i : Int))) with
  | some p =>
    have hm := List.mem_of_find?_eq_some hf
    exact (okD_mem h p hm).2.2
  | none =>
    show ((d.dry.drop ((i : Int).toNat * 32)).take 32).length = 32
    rw [List.length_take, List.length_drop]
    omega
theorem sync_same {X : Dk} (h : okD X = true) {i : Nat} (l : Int) : sectorOf ⟨syAt X.dry X.wet X.wet.length, [], l⟩ i = sectorOf X i := by
  have hp := okD_ok h
  rw [sector_bare]
  cases hf : X.wet.find? (fun p => decide (p.at_ = (i : Int))) with
  | some p =>
    have hs : sectorOf X i = p.b := by unfold sectorOf; rw [hf]
    obtain ⟨hm, ha⟩ := (find_iff hp.1 (i : Int) p).1 hf
    rw [hs, ← sync_sector hp hm, ha]
  | none =>
    have hs : sectorOf X i = (X.dry.drop ((i : Int).toNat * 32)).take 32 := by unfold sectorOf; rw [hf]
    rw [hs]
    have hn : ∀ (j : Nat) (q : Pg), j < X.wet.length → X.wet[j]? = some q → q.at_ ≠ (i : Int) := fun j q _ hq e => by
      have := List.find?_eq_none.1 hf q (List.mem_of_getElem? hq)
      simp [e] at this
    apply List.ext_getElem?
    intro t
    rw [sec_get, sec_get]
    by_cases ht : t < 32
    · rw [if_pos ht, if_pos ht, syAt_none hp i _ hn _ (by omega)]
    · rw [if_neg ht, if_neg ht]
theorem write_sector {d : Dk} (h : okD d = true) (i j : Nat) (b : List UInt8) (l : Int) : sectorOf ⟨d.dry, wrPg d.wet i b, l⟩ j = if j = i then b else sectorOf d j := by
  have hp := okD_ok h
  by_cases hj : j = i
  · subst hj
    rw [if_pos rfl]
    unfold sectorOf
    rw [show (⟨d.dry, wrPg d.wet j b, l⟩ : Dk).wet = wrPg d.wet j b from rfl, find_wr_same hp.1]
  · rw [if_neg hj]
    unfold sectorOf
    rw [show (⟨d.dry, wrPg d.wet i b, l⟩ : Dk).wet = wrPg d.wet i b from rfl, find_wr_other hp.1 (i : Int) (j : Int) b (by omega)]

/-- A write that went: what there was, and what comes. -/
structure Went (d : Dk) (r : Rt) (W : Dk) : Prop where
  ok : rOk r = true
  hold : holdB d = true
  left : d.left ≠ 0
  leftW : W.left = less (less d.left)
  okW : okD W = true
  lenW : W.dry.length = d.dry.length
  wetW : W.wet = []
  sec : ∀ j : Nat, sectorOf W j = if j = r.gen % 2 then octs r else sectorOf d j
theorem went_of {d : Dk} {r : Rt} (h : (wrR d r).2 = 0) : Went d r (wrR d r).1 := by
  have hr : rOk r = true := by
    cases hr : rOk r with
    | true => rfl
    | false => unfold wrR at h; rw [hr] at h; simp at h
  have hd : holdB d = true := by
    cases hd : holdB d with
    | true => rfl
    | false => unfold wrR at h; rw [hr, hd] at h; simp at h
  obtain ⟨hok, h64⟩ := hold_parts hd
  have hh := hold_has hd (Nat.mod_lt r.gen (by omega : 0 < 2))
  have hB : wrB d ((r.gen % 2 : Nat) : Int) (octs r).length = true := by unfold wrB; rw [hok, hh, octs_len]; rfl
  have e0 : wrR d r = if (wrD d ((r.gen % 2 : Nat) : Int) (octs r)).2 = 0 then synD (wrD d ((r.gen % 2 : Nat) : Int) (octs r)).1 else (noDk, (wrD d ((r.gen % 2 : Nat) : Int) (octs r)).2) := by unfold wrR; rw [hr, hd]; rfl
  have hl : d.left ≠ 0 := fun hl => by
    have : wrD d ((r.gen % 2 : Nat) : Int) (octs r) = (noDk, 11) := by unfold wrD; rw [hB, hl]; rfl
    rw [e0, this] at h
    exact absurd h (by decide)
  have e1 : wrD d ((r.gen % 2 : Nat) : Int) (octs r) = (⟨d.dry, wrPg d.wet ((r.gen % 2 : Nat) : Int) (octs r), less d.left⟩, 0) := by unfold wrD; rw [if_pos hB, if_neg hl]
  rw [e1, if_pos rfl] at e0
  have hle := (okD_parts hok).2.2.2.1
  have okX := okD_wr hok hh (octs_len r) (less_left hle hl)
  have e2 : synD ⟨d.dry, wrPg d.wet ((r.gen % 2 : Nat) : Int) (octs r), less d.left⟩ = if less d.left = 0 then (noDk, 11) else (⟨syAt d.dry (wrPg d.wet ((r.gen % 2 : Nat) : Int) (octs r)) (wrPg d.wet ((r.gen % 2 : Nat) : Int) (octs r)).length, [], less (less d.left)⟩, 0) := by
    unfold synD; rw [if_pos okX]
  have hl2 : less d.left ≠ 0 := fun hl2 => by
    rw [e0, e2, if_pos hl2] at h
    exact absurd h (by decide)
  rw [e2, if_neg hl2] at e0
  have hsl := syAt_length d.dry (wrPg d.wet ((r.gen % 2 : Nat) : Int) (octs r)) (wrPg d.wet ((r.gen % 2 : Nat) : Int) (octs r)).length (okD_parts okX).2.2.2.2.2
  have hlW := less_left (less_left hle hl) hl2
  rw [e0]
  refine ⟨hr, hd, hl, rfl, ?_, hsl, rfl, fun j => ?_⟩
  · obtain ⟨a, b, c, _⟩ := okD_parts hok
    exact okD_make (by rw [hsl]; exact a) (by rw [hsl]; exact b) (by rw [hsl]; exact c) hlW (fun i j hi => by simp at hi) (fun q hq => by simp at hq)
  · rw [sync_same okX (less (less d.left)), write_sector hok]
theorem Went.holdW {d W : Dk} {r : Rt} (h : Went d r W) : holdB W = true := by
  unfold holdB
  rw [h.okW, h.lenW]
  simpa using (hold_parts h.hold).2
theorem Went.at_self {d W : Dk} {r : Rt} (h : Went d r W) (hT : OkT r) : atR W (r.gen % 2) = r := by
  have hr := hold_rd h.holdW (Nat.mod_lt r.gen (by omega : 0 < 2))
  unfold atR
  rw [hr, h.sec, if_pos rfl]
  rw [if_pos ⟨rfl, ofB_octs h.ok hT, by rw [ofR_octs h.ok hT]⟩, ofR_octs h.ok hT]
theorem Went.at_other {d W : Dk} {r : Rt} (h : Went d r W) {j : Nat} (hj : j < 2) (hne : j ≠ r.gen % 2) : atR W j = atR d j := by
  apply atR_congr
  rw [hold_rd h.holdW hj, hold_rd h.hold hj, h.sec, if_neg hne]
/-- What is found behind a write. -/
theorem Went.found {d W : Dk} {r : Rt} (h : Went d r W) (hT : OkT r) :
    (fdR W).2 = 0 ∧ ((fdR d).2 ≠ 0 ∨ (fdR d).1.gen ≤ r.gen → (fdR W).1 = r) ∧ ((fdR d).2 = 0 → r.gen < (fdR d).1.gen → (fdR d).1.gen % 2 ≠ r.gen % 2 → (fdR W).1 = (fdR d).1) := by
  have hg := rOk_gen h.ok
  have hs := h.at_self hT
  have ew : fdR W = if (bestR W 2).gen = 0 then (noRt, 4) else (bestR W 2, 0) := by unfold fdR; rw [h.holdW]; rfl
  have ed : fdR d = if (bestR d 2).gen = 0 then (noRt, 4) else (bestR d 2, 0) := by unfold fdR; rw [h.hold]; rfl
  rw [ew, ed, best_two, best_two]
  have g0 : (atR d 0).gen = 0 ∨ (atR d 0).gen % 2 = 0 := by
    rcases atR_ok d 0 with e | ⟨_, e, _⟩
    · rw [e]; exact .inl rfl
    · exact .inr e
  have g1 : (atR d 1).gen = 0 ∨ (atR d 1).gen % 2 = 1 := by
    rcases atR_ok d 1 with e | ⟨_, e, _⟩
    · rw [e]; exact .inl rfl
    · exact .inr e
  rcases (show r.gen % 2 = 0 ∨ r.gen % 2 = 1 by omega) with hi | hi
  · have ho := h.at_other (j := 1) (by omega) (by omega)
    rw [hi] at hs
    rw [hs, ho]
    by_cases c1 : r.gen < (atR d 1).gen
    · rw [if_pos c1, if_neg (by omega)]
      by_cases c2 : (atR d 0).gen < (atR d 1).gen
      · rw [if_pos c2, if_neg (by omega)]
        exact ⟨rfl, fun hh => by rcases hh with hh | hh; exact absurd rfl hh; exact absurd hh (by show ¬ (atR d 1).gen ≤ r.gen; omega), fun _ _ _ => rfl⟩
      · rw [if_neg c2, if_neg (by omega)]
        exact ⟨rfl, fun hh => by rcases hh with hh | hh; exact absurd rfl hh; exact absurd hh (by show ¬ (atR d 0).gen ≤ r.gen; omega), fun _ _ hh => absurd (show (atR d 0).gen % 2 = r.gen % 2 by omega) hh⟩
    · rw [if_neg c1, if_neg (by omega)]
      refine ⟨rfl, fun _ => rfl, fun h1 h2 h3 => ?_⟩
      by_cases c2 : (atR d 0).gen < (atR d 1).gen
      · rw [if_pos c2] at h1 h2 h3
        rw [if_neg (by omega)] at h2
        exact absurd h2 (by show ¬ r.gen < (atR d 1).gen; omega)
      · rw [if_neg c2] at h1 h2 h3
        by_cases c3 : (atR d 0).gen = 0
        · rw [if_pos c3] at h1; exact absurd h1 (by decide)
        · rw [if_neg c3] at h3
          exact absurd (show (atR d 0).gen % 2 = r.gen % 2 by omega) h3
  · have ho := h.at_other (j := 0) (by omega) (by omega)
    rw [hi] at hs
    rw [hs, ho]
    by_cases c1 : (atR d 0).gen < r.gen
    · rw [if_pos c1, if_neg (by omega)]
      refine ⟨rfl, fun _ => rfl, fun h1 h2 h3 => ?_⟩
      by_cases c2 : (atR d 0).gen < (atR d 1).gen
      · rw [if_pos c2, if_neg (by omega)] at h2 h3
        exact absurd (show (atR d 1).gen % 2 = r.gen % 2 by omega) h3
      · rw [if_neg c2] at h1 h2 h3
        by_cases c3 : (atR d 0).gen = 0
        · rw [if_pos c3] at h1; exact absurd h1 (by decide)
        · rw [if_neg c3] at h2
          exact absurd h2 (by show ¬ r.gen < (atR d 0).gen; omega)
    · rw [if_neg c1, if_neg (by omega)]
      by_cases c2 : (atR d 0).gen < (atR d 1).gen
      · rw [if_pos c2, if_neg (by omega)]
        exact ⟨rfl, fun hh => by rcases hh with hh | hh; exact absurd rfl hh; exact absurd hh (by show ¬ (atR d 1).gen ≤ r.gen; omega), fun _ _ hh => absurd (show (atR d 1).gen % 2 = r.gen % 2 by omega) hh⟩
      · rw [if_neg c2, if_neg (by omega)]
        exact ⟨rfl, fun hh => by rcases hh with hh | hh; exact absurd rfl hh; exact absurd hh (by show ¬ (atR d 0).gen ≤ r.gen; omega), fun _ _ _ => rfl⟩
/-- What is written elsewhere changes nothing of what is found. -/
theorem found_far {W : Dk} (h : holdB W = true) {a : Int} {b : List UInt8} (h2 : 2 ≤ a) (hz : (wrD W a b).2 = 0) : fdR (wrD W a b).1 = fdR W := by
  obtain ⟨hok, h64⟩ := hold_parts h
  have hB : wrB W a b.length = true := by
    cases hB : wrB W a b.length with
    | true => rfl
    | false => unfold wrD at hz; rw [hB] at hz; simp at hz
  have hl : W.left ≠ 0 := fun hl => by
    have : wrD W a b = (noDk, 11) := by unfold wrD; rw [hB, hl]; rfl
    rw [this] at hz
    exact absurd hz (by decide)
  have e1 : wrD W a b = (⟨W.dry, wrPg W.wet a b, less W.left⟩, 0) := by unfold wrD; rw [if_pos hB, if_neg hl]
  rw [e1]
  simp only [wrB, Bool.and_eq_true, decide_eq_true_eq] at hB
  obtain ⟨⟨_, hh⟩, h32⟩ := hB
  obtain ⟨n, rfl⟩ := Int.eq_ofNat_of_zero_le (show 0 ≤ a by omega)
  have okX := okD_wr hok hh h32 (less_left (okD_parts hok).2.2.2.1 hl)
  have hX : holdB ⟨W.dry, wrPg W.wet (n : Int) b, less W.left⟩ = true := by
    unfold holdB
    rw [okX]
    simpa using h64
  refine fdR_congr (hX.trans h.symm) ?_ ?_
  · rw [hold_rd hX (by omega), hold_rd h (by omega), write_sector hok, if_neg (by omega)]
  · rw [hold_rd hX (by omega), hold_rd h (by omega), write_sector hok, if_neg (by omega)]
end Go.Proofs.YtommlgdolahfbaaDoor
