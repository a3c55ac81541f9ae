import Derived.Test.YthekgpmkoemmaaaL2
namespace Go.Proofs.Ythekgpmkoemmaaa
open Go.RowKit
attribute [local go_sem] bz_size bz_toList

theorem cmpP_names {a b : List UInt8} (ha : nameB a = true) (hb : nameB b = true) : cmpP (parts a) b = lex (parts a) (parts b) := by
  have h := cmpP_lex (parts a) (parts b) (fun p hp => okP_ne' (List.all_eq_true.1 (name_parts.1 ha).2.2 p hp)) (fun q hq => ⟨okP_ne' (List.all_eq_true.1 (name_parts.1 hb).2.2 q hq), parts_no b q hq⟩)
  rwa [jn_parts] at h
theorem cmp_any (a b : List UInt8) (hla : a.length ≤ 1000) (hlb : b.length ≤ 1000) (w : World) :
    Calls Try.prog 18 #[.string (bz a), .string (bz b)] w fun e W' => e = .returned (.tuple #[.int .i64 (cmpF a b).1, .int .i64 (cmpF a b).2]) ∧ Below w.heap.size w W' := by
  by_cases h : nameB a = false ∨ nameB b = false
  · have e : cmpF a b = (0, 1) := by unfold cmpF; rw [if_pos h]
    rw [e]
    exact cmp_no a b h hla hlb w
  · have ha : nameB a = true := by cases h' : nameB a with
      | true => rfl
      | false => exact absurd (.inl h') h
    have hb : nameB b = true := by cases h' : nameB b with
      | true => rfl
      | false => exact absurd (.inr h') h
    have e : cmpF a b = (cmpP (parts a) b, 0) := by unfold cmpF; rw [if_neg h, cmpP_names ha hb]
    rw [e]
    exact cmp_loop a b ha hb hla hlb w
theorem cmpF_no {a b : List UInt8} (h : nameB a = false ∨ nameB b = false) : cmpF a b = (0, 1) := by unfold cmpF; rw [if_pos h]
theorem cmpF_yes {a b : List UInt8} (ha : nameB a = true) (hb : nameB b = true) : cmpF a b = (lex (parts a) (parts b), 0) := by
  unfold cmpF; rw [if_neg (by rw [ha, hb]; simp)]
theorem lex_eq {a b : List UInt8} : lex (parts a) (parts b) = 0 ↔ a = b :=
  ⟨fun h => parts_inj (lex_zero _ _ h), fun h => by rw [h, lex_self]⟩
end Go.Proofs.Ythekgpmkoemmaaa
