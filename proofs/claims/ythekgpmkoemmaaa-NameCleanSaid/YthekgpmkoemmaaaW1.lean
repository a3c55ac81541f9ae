import Derived.Test.YthekgpmkoemmaaaBase
import Derived.Test.YthekgpmkoemmaaaE0
namespace Go.Proofs.Ythekgpmkoemmaaa
open Go.RowKit
attribute [local go_sem] bz_size bz_toList
theorem bz_get (l : List UInt8) (k : Nat) (h : k < l.length) : (bz l)[k]'h = l[k] := rfl
theorem ofName_bad {l : List UInt8} {k : Nat} (h : k < l.length) (hb : okC l[k] = false) : ofName l = false := by
  unfold ofName
  rw [List.all_eq_false]
  exact ⟨l[k], List.getElem_mem h, by simp [hb]⟩
theorem ofName_snoc {l : List UInt8} {k : Nat} (h : k < l.length) (ho : ofName (l.take k) = true) (hb : okC l[k] = true) : ofName (l.take (k + 1)) = true := by
  unfold ofName at *
  rw [List.take_succ_eq_append_getElem h, List.all_append, ho]
  simp [hb]
theorem okC_false {c : UInt8} (h : (c.toNat : Int) < 33 ∨ 126 < (c.toNat : Int)) : okC c = false := by
  unfold okC
  rw [Bool.and_eq_false_iff]
  rcases h with h | h
  · left; simp; omega
  · right; simp; omega
theorem okC_true {c : UInt8} (h1 : 33 ≤ (c.toNat : Int)) (h2 : (c.toNat : Int) ≤ 126) : okC c = true := by
  unfold okC
  rw [Bool.and_eq_true]
  constructor <;> simp <;> omega

set_option maxHeartbeats 400000 in
theorem ofName_any (l : List UInt8) (hl : l.length ≤ 1000) (w : World) : Calls Try.prog 22 #[.string (bz l)] w fun e w' => e = .returned (.bool (ofName l)) ∧ w = w' := by
  go_enter Try.func22, Try.ntmps22
  go_wp2
  go_loop [6] (fun i => ∃ k : Nat, k ≤ l.length ∧ i = .int .i64 k ∧ Hid (ofName (l.take k) = true)) (fun i => l.length - (intOf i).toNat)
  case atStart => exact ⟨0, Nat.zero_le _, rfl, hide rfl⟩
  case round =>
    obtain ⟨k, hk, rfl, ho⟩ := hrel
    by_cases hlt : k < l.length
    · have hs : k < (bz l).size := hlt
      have F := fun h => ofName_bad hlt (okC_false h)
      have G := fun h1 h2 => ofName_snoc hlt (unhide ho) (okC_true h1 h2)
      replace F := hide F
      replace G := hide G
      go_wp2
      · go_ret
        exact ⟨ret_b rfl (unhide F ‹_›).symm, rfl⟩
      · go_round
        case rel =>
          rename_i h
          exact ⟨k + 1, by omega, by go_num, hide (unhide G h.1 h.2)⟩
        case measure => simp [intOf]; omega
      · go_ret
        exact ⟨ret_b rfl (unhide F (Or.inl ‹_›)).symm, rfl⟩
    · obtain rfl : k = l.length := by omega
      have H := unhide ho
      rw [List.take_length] at H
      clear ho hlt
      replace H := hide H
      go_wp2
      go_ret
      exact ⟨ret_b rfl (unhide H).symm, rfl⟩
end Go.Proofs.Ythekgpmkoemmaaa
