import Derived.Test.YtommlgdolahfbaaDoorRP
namespace Go.Proofs.YtommlgdolahfbaaDoor
set_option maxRecDepth 100000
open Go.RowKit

theorem bits_some : ∀ n, n < 256 → n ≠ 0 → ∃ k, k < 8 ∧ (n / 2 ^ k % 2 == 1) = true := by decide +kernel
theorem bits_lack : ∀ n, n < 256 → n ≠ 255 → ∃ k, k < 8 ∧ (n / 2 ^ k % 2 == 1) = false := by decide +kernel
theorem bits_all : ∀ k, k < 8 → (255 / 2 ^ k % 2 == 1) = true := by decide
/-- A disk on which a root was being written, when it crashed. -/
structure Torn (D : Dk) (old r : Rt) (m : UInt8) (X C : Dk) : Prop where
  wr : wrD D ((r.gen % 2 : Nat) : Int) (octs r) = (X, 0)
  cr : crD X [m] = (C, 0)
  lenX : X.dry.length = D.dry.length
  wetX : X.wet.length = 1
  lenC : C.dry.length = D.dry.length
  wetC : C.wet.length = 0
  hold : holdB C = true
  len : (sectorOf C (r.gen % 2 : Nat)).length = 32
  cell : ∀ t, t < 32 → (sectorOf C (r.gen % 2 : Nat))[t]? = if bitOf m (t / 4) = true then (octs r)[t]? else (octs old)[t]?
theorem torn_of {d D : Dk} {old r : Rt} (h : Went d old D) (hl : d.left = -1) (hp : old.gen % 2 = r.gen % 2) (m : UInt8) : ∃ X C, Torn D old r m X C := by
  obtain ⟨hok, h64⟩ := hold_parts h.holdW
  have hh := hold_has h.holdW (Nat.mod_lt r.gen (by omega : 0 < 2))
  have hB : wrB D ((r.gen % 2 : Nat) : Int) (octs r).length = true := by unfold wrB; rw [hok, hh, octs_len]; rfl
  have hlD : D.left = -1 := by rw [h.leftW, hl]; rfl
  have e1 : wrD D ((r.gen % 2 : Nat) : Int) (octs r) = (⟨D.dry, [⟨((r.gen % 2 : Nat) : Int), octs r⟩], -1⟩, 0) := by
    unfold wrD
    rw [if_pos hB, if_neg (by rw [hlD]; decide), h.wetW, hlD]
    rfl
  have okX := okD_wr hok hh (octs_len r) (l := -1) (by decide)
  rw [h.wetW, show wrPg [] ((r.gen % 2 : Nat) : Int) (octs r) = [⟨((r.gen % 2 : Nat) : Int), octs r⟩] from rfl] at okX
  have e2 : crD ⟨D.dry, [⟨((r.gen % 2 : Nat) : Int), octs r⟩], -1⟩ [m] = (⟨crAt D.dry [⟨((r.gen % 2 : Nat) : Int), octs r⟩] [m] 1, [], -1⟩, 0) := by
    unfold crD; rw [if_pos okX]; rfl
  have hsl := crAt_length D.dry [⟨((r.gen % 2 : Nat) : Int), octs r⟩] [m] 1 (okD_parts okX).2.2.2.2.2
  have okC := ok_bare okX _ hsl
  have hC : holdB ⟨crAt D.dry [⟨((r.gen % 2 : Nat) : Int), octs r⟩] [m] 1, [], -1⟩ = true := by
    unfold holdB
    rw [okC, Bool.true_and]
    exact decide_eq_true (Nat.lt_of_lt_of_eq h64 hsl.symm)
  refine ⟨_, _, e1, e2, rfl, rfl, hsl, rfl, hC, sector_len okC (hold_has hC (Nat.mod_lt r.gen (by omega : 0 < 2))), fun t ht => ?_⟩
  have hs := h.sec (r.gen % 2)
  rw [if_pos hp.symm] at hs
  have hD : D = ⟨D.dry, [], D.left⟩ := by have := h.wetW; obtain ⟨a, b, c⟩ := D; simp_all
  rw [hD, sector_bare] at hs
  have ho : (octs old)[t]? = D.dry[((r.gen % 2 : Nat) : Int).toNat * 32 + t]? := by rw [← hs, sec_get, if_pos ht]
  rw [sector_bare, sec_get, if_pos ht, ho, crAt_some (okD_ok okX) 0 _ m rfl rfl 1 (by omega) _ (by show _ = ((r.gen % 2 : Nat) : Int).toNat; omega)]
  rw [show (((r.gen % 2 : Nat) : Int).toNat * 32 + t) % 32 = t by omega]
theorem Torn.zero {D X C : Dk} {old r : Rt} (h : Torn D old r 0 X C) : sectorOf C (r.gen % 2 : Nat) = octs old := by
  apply List.ext_getElem?
  intro t
  by_cases ht : t < 32
  · rw [h.cell t ht, if_neg]
    unfold bitOf
    show ¬ ((0 : Nat) / 2 ^ (t / 4) % 2 == 1) = true
    rw [Nat.zero_div]; decide
  · rw [List.getElem?_eq_none (by rw [h.len]; omega), List.getElem?_eq_none (by rw [octs_len]; omega)]
theorem Torn.full {D X C : Dk} {old r : Rt} (h : Torn D old r 255 X C) : sectorOf C (r.gen % 2 : Nat) = octs r := by
  apply List.ext_getElem?
  intro t
  by_cases ht : t < 32
  · rw [h.cell t ht, if_pos]
    exact bits_all (t / 4) (by omega)
  · rw [List.getElem?_eq_none (by rw [h.len]; omega), List.getElem?_eq_none (by rw [octs_len]; omega)]
theorem Torn.part {D X C : Dk} {old r : Rt} {m : UInt8} (h : Torn D old r m X C) (h0 : m ≠ 0) (h1 : m ≠ 255) (hg : old.gen % 256 ≠ r.gen % 256) : ofB (sectorOf C (r.gen % 2 : Nat)) = false := by
  cases hb : ofB (sectorOf C (r.gen % 2 : Nat)) with
  | false => rfl
  | true =>
    obtain ⟨c, hc⟩ := ofB_stamp hb
    have hm := m.toNat_lt
    obtain ⟨k1, a1, b1⟩ := bits_some m.toNat hm (fun e => h0 (UInt8.toNat_inj.1 e))
    obtain ⟨k2, a2, b2⟩ := bits_lack m.toNat hm (fun e => h1 (UInt8.toNat_inj.1 e))
    have e1 := hc k1 a1
    have e2 := hc k2 a2
    rw [h.cell _ (by omega), show 4 * k1 / 4 = k1 by omega, if_pos (show bitOf m k1 = true from b1), octs_stamp r a1] at e1
    rw [h.cell _ (by omega), show 4 * k2 / 4 = k2 by omega, if_neg (by rw [show bitOf m k2 = false from b2]; decide), octs_stamp old a2] at e2
    injection e1 with e1
    injection e2 with e2
    have e3 : (oct old.gen 0).toNat = (oct r.gen 0).toNat := by rw [e1, e2]
    rw [oct_nat, oct_nat] at e3
    exact absurd (by omega) hg
/-- What is found behind such a crash. -/
theorem Torn.found {D X C : Dk} {old r : Rt} {m : UInt8} (h : Torn D old r m X C) (hr : rOk r = true) (hT : OkT r) (ho : rOk old = true) (hT' : OkT old) (hg : old.gen % 256 ≠ r.gen % 256) :
    (fdR C).2 = 4 ∨ ((fdR C).2 = 0 ∧ ((fdR C).1 = r ∨ (fdR C).1 = old ∨ (ofE (sectorOf C (1 - r.gen % 2 : Nat)) = 0 ∧ ofR (sectorOf C (1 - r.gen % 2 : Nat)) = (fdR C).1))) := by
  have ec : fdR C = if (bestR C 2).gen = 0 then (noRt, 4) else (bestR C 2, 0) := by unfold fdR; rw [h.hold]; rfl
  rw [ec]
  by_cases hz : (bestR C 2).gen = 0
  · rw [if_pos hz]; exact .inl rfl
  · rw [if_neg hz]
    refine .inr ⟨rfl, ?_⟩
    show bestR C 2 = r ∨ bestR C 2 = old ∨ (_ ∧ _ = bestR C 2)
    obtain ⟨j, hj, hb⟩ : ∃ j : Nat, j < 2 ∧ bestR C 2 = atR C j := by
      rw [best_two]
      split
      · exact ⟨1, by omega, rfl⟩
      · exact ⟨0, by omega, rfl⟩
    rw [hb] at hz ⊢
    rcases atR_ok C j with e | ⟨_, _, _, hB, hR⟩
    · rw [e] at hz; exact absurd rfl hz
    · rw [hold_rd h.hold hj] at hB hR
      by_cases hi : j = r.gen % 2
      · subst hi
        by_cases m0 : m = 0
        · subst m0
          rw [h.zero] at hR
          right; left
          rw [hR, ofR_octs ho hT']
        · by_cases m1 : m = 255
          · subst m1
            rw [h.full] at hR
            left
            rw [hR, ofR_octs hr hT]
          · rw [h.part m0 m1 hg] at hB
            cases hB
      · have : j = 1 - r.gen % 2 := by omega
        rw [← this]
        right; right
        exact ⟨by unfold ofE; rw [hB]; rfl, hR.symm⟩
end Go.Proofs.YtommlgdolahfbaaDoor
