import Derived.Test.YthekgpmkoemmaaaW2
import Derived.Test.YthekgpmkoemmaaaSh
namespace Go.Proofs.Ythekgpmkoemmaaa
open Go.RowKit
attribute [local go_sem] bz_size bz_toList
theorem tailJ_lib (ps : List (List UInt8)) : tailJ ps = Lib.joinTail [47] ps := by
  induction ps with
  | nil => rfl
  | cons p ps ih => simp only [tailJ, ih]; simp [Lib.joinTail]
theorem jn_lib (ps : List (List UInt8)) : Lib.join ps [47] = jn ps := by
  cases ps with
  | nil => rfl
  | cons p ps => rw [Lib.join_cons, jn, tailJ_lib]
theorem map_bz (k : List (List UInt8)) : (k.map bz).map (·.data.toList) = k := by
  rw [List.map_map]
  have : ((fun x : ByteArray => x.data.toList) ∘ bz) = id := by funext l; rfl
  rw [this, List.map_id]
set_option maxHeartbeats 400000 in
theorem join25_any (lo hi : Nat) (v : Value) (k : List (List UInt8)) (w : World) (h : Ss lo hi w v k) (hhi : hi ≤ w.heap.size) (hk : k.length ≤ 1000) (hlen : (jn k).length ≤ 1000) :
    Calls Try.prog 25 #[v, .string ⟨#[47]⟩] w fun e w' => e = .returned (.string (bz (jn k))) ∧ Below w.heap.size w w' := by
  obtain ⟨A, c, rfl, h1, h2, h3⟩ := h.open
  cases hk0 : k with
  | nil =>
    subst hk0
    exact (Try.strings_Join_none A c _ w).mono fun e w' ⟨he, hw⟩ => ⟨he, hw ▸ Below.refl _ _⟩
  | cons k0 kr =>
    rw [← hk0]
    obtain ⟨b, off, rfl, g1, g2, _⟩ := h3 0 (by rw [hk0]; simp)
    have hl : (k.map bz).length = k.length := by simp
    have hj : Lib.join ((k.map bz).map (·.data.toList)) (⟨#[47]⟩ : ByteArray).data.toList = jn k := by rw [map_bz]; exact jn_lib k
    have hj2 := Try.strings_Join b off c (k.map bz) ⟨#[47]⟩ w (fun j x hx => by
      obtain ⟨hj, rfl⟩ := List.getElem?_eq_some_iff.1 hx
      rw [hl] at hj
      obtain ⟨b', off', e, _, _, hc⟩ := h3 j hj
      injection e with e
      injection e with e1 e2 _
      subst e1 e2
      rw [hc, List.getElem_map]) (by omega) (by omega) (by omega) (by rw [hj]; omega)
    rw [hj, hl] at hj2
    exact hj2
set_option maxHeartbeats 400000 in
theorem clone24_any (l : List UInt8) (hl : l.length ≤ 1000) (w : World) :
    Calls Try.prog 24 #[.string (bz l)] w fun e w' => e = .returned (.string (bz l)) ∧ Below w.heap.size w w' := by
  have HC := fun W => Try.stringslite_Clone (bz l) W (by rw [bz_size]; omega)
  replace HC := hide HC
  go_enter Try.func24, Try.ntmps24
  go_wp2_with (go_at_call 38; refine (unhide HC _).mono ?_; rintro e w' ⟨rfl, hb⟩)
  go_ret
  exact ⟨rfl, hb⟩
end Go.Proofs.Ythekgpmkoemmaaa
