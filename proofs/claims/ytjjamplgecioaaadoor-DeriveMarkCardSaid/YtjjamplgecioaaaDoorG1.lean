import Derived.Test.YtjjamplgecioaaaDoorW10
namespace Go.Proofs.YtjjamplgecioaaaDoor
open Go.RowKit

set_option maxHeartbeats 400000 in
theorem short_any (g N : Nat) (A : Nat → Option Addr) (n c : Nat → Nat) (w : World) (h : ∀ i, i < N → w.cell? ⟨g, i, none⟩ = some (.slice (A i) (n i) (c i))) (hN : N ≤ 100) :
    Calls Tryd.prog 17 #[.slice (some ⟨g, 0, none⟩) N N] w fun e w' => (∃ b : Bool, e = .returned (.bool b) ∧ (b = true ↔ ∀ i, i < N → n i ≤ 64)) ∧ w = w' := by
  replace h := hide h
  go_enter Tryd.func17, Tryd.ntmps17
  go_wp2
  go_loopw [7] (fun v wr => ∃ k : Nat, k ≤ N ∧ v = .int .i64 k ∧ Hid (∀ i, i < k → n i ≤ 64) ∧ w = wr) (fun v _ => N - (intOf v).toNat)
  case atStart => exact ⟨0, Nat.zero_le _, rfl, hide (fun i hi => absurd hi (Nat.not_lt_zero _)), rfl⟩
  case round =>
    obtain ⟨k, hk, rfl, hs, rfl⟩ := hrel
    by_cases hlt : k < N
    · have k1 : (k : Int) < (N : Int) := by omega
      have hx := unhide h k hlt
      by_cases h64 : n k ≤ 64
      · have h1 : ¬ (64 : Int) < (n k : Int) := by omega
        have hs' : ∀ i, i < k + 1 → n i ≤ 64 := fun i hi => by
          rcases Nat.lt_or_ge i k with hik | hik
          · exact unhide hs i hik
          · obtain rfl : i = k := by omega
            exact h64
        replace hs' := hide hs'
        generalize A k = Ak at *
        generalize n k = nk at *
        generalize c k = ck at *
        go_wp2
        go_roundw
        case rel => exact ⟨k + 1, by omega, by go_num, hs', by trivial⟩
        case measure => simp [intOf]; omega
      · have h1 : (64 : Int) < (n k : Int) := by omega
        have hno : ¬ ∀ i, i < N → n i ≤ 64 := fun hall => h64 (hall k hlt)
        replace hno := hide hno
        generalize A k = Ak at *
        generalize hnk : n k = nk at *
        generalize c k = ck at *
        clear hnk
        go_wp2
        go_ret
        exact ⟨⟨false, rfl, by simpa using unhide hno⟩, rfl⟩
    · obtain rfl : k = N := by omega
      go_wp2
      go_ret
      exact ⟨⟨true, rfl, by simpa using unhide hs⟩, rfl⟩
end Go.Proofs.YtjjamplgecioaaaDoor
