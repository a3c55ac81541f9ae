import Derived.Test.YthekgpmkoemmaaaW1
import Derived.Test.YthekgpmkoemmaaaW2
namespace Go.Proofs.Ythekgpmkoemmaaa
open Go.RowKit
attribute [local go_sem] bz_size bz_toList

set_option maxHeartbeats 400000 in
theorem octets_any (l : List UInt8) (hl : l.length ≤ 1000) (w : World) : Calls Try.prog 26 #[.string (bz l)] w fun e w' => e = .returned (.bool (ofName l)) ∧ w = w' := by
  go_enter Try.func26, Try.ntmps26
  go_wp2
  go_loop [6] (fun i => ∃ k : Nat, k ≤ l.length ∧ i = .int .i64 k ∧ Hid (ofName (l.take k) = true)) (fun i => l.length - (intOf i).toNat)
  case atStart => exact ⟨0, Nat.zero_le _, rfl, hide rfl⟩
  case round =>
    obtain ⟨k, hk, rfl, ho⟩ := hrel
    by_cases hlt : k < l.length
    · have hs : k < (bz l).size := hlt
      have F := fun h => ofName_bad hlt (okC_false h)
      have G := fun h1 h2 => ofName_snoc hlt (unhide ho) (okC_true h1 h2)
      replace F := hide F
      replace G := hide G
      obtain ⟨c, hcc⟩ : ∃ c : Int, c = (((bz l)[k]).toNat : Int) := ⟨_, rfl⟩
      have hc : c = ((l[k]'hlt).toNat : Int) := hcc
      by_cases h47 : c = 47
      · have G' : Hid (ofName (l.take (k + 1)) = true) := hide (unhide G (by omega) (by omega))
        have e1 : ((((bz l)[k]).toNat : Int) != 47) = false := by rw [← hcc, h47]; rfl
        clear hc hcc h47 F G
        go_wp2
        go_round
        case rel => exact ⟨k + 1, by omega, by go_num, G'⟩
        case measure => simp [intOf]; omega
      · have e1 : ((((bz l)[k]).toNat : Int) != 47) = true := by rw [← hcc, bne_iff_ne]; exact h47
        by_cases hb : c < 33 ∨ 126 < c
        · have F' : Hid (ofName l = false) := hide (unhide F (by omega))
          rcases hb with hb | hb
          · have e2 : ((((bz l)[k]).toNat : Int) < 33) := by rw [← hcc]; exact hb
            clear hc hcc h47 F G hb
            go_wp2
            go_ret
            exact ⟨ret_b rfl (unhide F').symm, rfl⟩
          · have e2 : ¬ ((((bz l)[k]).toNat : Int) < 33) := by rw [← hcc]; omega
            have e3 : (126 < (((bz l)[k]).toNat : Int)) := by rw [← hcc]; omega
            clear hc hcc h47 F G hb
            go_wp2
            go_ret
            exact ⟨ret_b rfl (unhide F').symm, rfl⟩
        · have G' : Hid (ofName (l.take (k + 1)) = true) := hide (unhide G (by omega) (by omega))
          have e2 : ¬ ((((bz l)[k]).toNat : Int) < 33) := by rw [← hcc]; omega
          have e3 : ¬ (126 < (((bz l)[k]).toNat : Int)) := by rw [← hcc]; omega
          clear hc hcc h47 F G hb
          go_wp2
          go_round
          case rel => exact ⟨k + 1, by omega, by go_num, G'⟩
          case measure => simp [intOf]; omega
    · obtain rfl : k = l.length := by omega
      have H := unhide ho
      rw [List.take_length] at H
      clear ho hlt
      replace H := hide H
      go_wp2
      go_ret
      exact ⟨ret_b rfl (unhide H).symm, rfl⟩
end Go.Proofs.Ythekgpmkoemmaaa
