import Derived.Test.YthekgpmkoemmaaaW1
import Derived.Test.YthekgpmkoemmaaaSh
namespace Go.Proofs.Ythekgpmkoemmaaa
open Go.RowKit
attribute [local go_sem] bz_size bz_toList

/-! ### the first slash -/
theorem index_has : ∀ (l : List UInt8), hasS l = true → Lib.indexByte l 47 = ((hd l).length : Int)
  | [], h => by simp [hasS] at h
  | c :: l, h => by
    unfold Lib.indexByte
    by_cases hc : c = 47
    · subst hc; simp [hd]
    · have h' : hasS l = true := by
        simp [hasS] at h ⊢
        exact h.resolve_left (fun e => hc e.symm)
      have ih := index_has l h'
      have e1 : hd (c :: l) = c :: hd l := by simp [hd, hc]
      have hb : (c == 47) = false := by simpa using hc
      have h2 : (Lib.indexByte l 47 == -1) = false := by rw [ih, beq_eq_false_iff_ne]; omega
      rw [hb, h2, e1, ih]
      simp
theorem index_not : ∀ (l : List UInt8), hasS l = false → Lib.indexByte l 47 = -1
  | [], _ => rfl
  | c :: l, h => by
    have h' : ¬ c = 47 ∧ hasS l = false := by
      simp [hasS] at h ⊢
      exact ⟨fun e => h.1 e.symm, h.2⟩
    have ih := index_not l h'.2
    unfold Lib.indexByte
    have hb : (c == 47) = false := by simpa using h'.1
    rw [hb, ih]
    simp
theorem take_hd (l : List UInt8) (h : hasS l = true) : l.take (hd l).length = hd l := by
  have hc := cut_has l h
  generalize hd l = u at hc ⊢
  generalize tl l = v at hc
  subst hc
  simp
theorem drop_hd (l : List UInt8) (h : hasS l = true) : l.drop ((hd l).length + 1) = tl l := by
  have hc := cut_has l h
  generalize hd l = u at hc ⊢
  generalize tl l = v at hc ⊢
  subst hc
  rw [List.drop_append]
  simp
theorem bz_ext (l : List UInt8) (a b : Nat) : (bz l).extract a b = bz ((l.drop a).take (b - a)) := ByteArray.extract_mk l a b
theorem bz_hd (l : List UInt8) (h : hasS l = true) : (bz l).extract 0 (hd l).length = bz (hd l) := by
  rw [bz_ext, List.drop_zero, Nat.sub_zero, take_hd l h]
theorem bz_tl (l : List UInt8) (h : hasS l = true) : (bz l).extract ((hd l).length + 1) l.length = bz (tl l) := by
  rw [bz_ext, drop_hd l h, List.take_of_length_le]
  rw [← drop_hd l h]; simp

set_option maxHeartbeats 400000 in
theorem cut45_any (l : List UInt8) (hl : l.length ≤ 1000) (w : World) : Calls Try.prog 45 #[.string (bz l), .string ⟨#[47]⟩] w fun e w' => e = .returned (.tuple #[.string (bz (hd l)), .string (bz (tl l)), .bool (hasS l)]) ∧ ∃ n, w' = w.drewN n := by
  have HI := fun W => Try.stringslite_Index_one (bz l) 47 W
  cases hh : hasS l with
  | false =>
    have e1 : Lib.indexByte (bz l).data.toList 47 = -1 := index_not l hh
    rw [(cut_not l hh).1, (cut_not l hh).2]
    rw [e1] at HI
    clear e1 hh
    replace HI := hide HI
    go_enter Try.func45, Try.ntmps45
    go_wp2_with (go_at_call 50; refine (unhide HI _).mono ?_; rintro e w' ⟨rfl, rfl⟩)
    go_ret3
    exact ⟨rfl, 0, rfl⟩
  | true =>
    have e1 : Lib.indexByte (bz l).data.toList 47 = ((hd l).length : Int) := index_has l hh
    have e2 := bz_hd l hh
    have e3 := bz_tl l hh
    have hlen : (hd l).length + 1 ≤ l.length := by
      have := congrArg List.length (cut_has l hh)
      simp at this; omega
    rw [e1] at HI
    clear e1 hh
    obtain ⟨k, hk⟩ : ∃ k, k = (hd l).length := ⟨_, rfl⟩
    rw [← hk] at HI e2 e3 hlen
    clear hk
    replace HI := hide HI
    have c2 : (k : Int) ≤ (l.length : Int) := by omega
    have c3 : (0 : Int) ≤ (k : Int) + 1 := by omega
    have c4 : (k : Int) + 1 ≤ (l.length : Int) := by omega
    have E2 := hide e2
    have E3 := hide e3
    clear e2 e3
    go_enter Try.func45, Try.ntmps45
    go_wp2_with (go_at_call 50; refine (unhide HI _).mono ?_; rintro e w' ⟨rfl, rfl⟩)
    go_quiet (fail)
    go_wp2
    go_ret3
    exact ⟨by rw [← unhide E2, ← unhide E3]; rfl, nq, rfl⟩

set_option maxHeartbeats 400000 in
theorem cut_any (l : List UInt8) (hl : l.length ≤ 1000) (w : World) : Calls Try.prog 34 #[.string (bz l), .string ⟨#[47]⟩] w fun e w' => e = .returned (.tuple #[.string (bz (hd l)), .string (bz (tl l)), .bool (hasS l)]) ∧ ∃ n, w' = w.drewN n := by
  have HI := fun W => cut45_any l hl W
  replace HI := hide HI
  go_enter Try.func34, Try.ntmps34
  go_wp2_with (go_at_call 45; refine (unhide HI _).mono ?_; rintro e w' ⟨rfl, n, rfl⟩)
  go_ret3
  exact ⟨rfl, n, rfl⟩
end Go.Proofs.Ythekgpmkoemmaaa
