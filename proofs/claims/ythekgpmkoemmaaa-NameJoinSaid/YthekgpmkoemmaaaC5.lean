import Derived.Test.YthekgpmkoemmaaaC4
namespace Go.Proofs.Ythekgpmkoemmaaa
open Go.RowKit
attribute [local go_sem] bz_size bz_toList

theorem bz_add (a b : List UInt8) : bz a ++ bz b = bz (a ++ b) := ByteArray.mk_append_mk a b
theorem bz_cat (d t : List UInt8) : bz d ++ ⟨#[47]⟩ ++ bz t = bz (d ++ 47 :: t) := by
  have : (⟨#[47]⟩ : ByteArray) = bz [47] := rfl
  rw [this, bz_add, bz_add]; simp
theorem bz_sl (d : List UInt8) : bz d ++ ⟨#[47]⟩ = bz (d ++ [47]) := bz_add d [47]

set_option maxHeartbeats 400000 in
theorem isFolder_any (t : List UInt8) (hl : t.length ≤ 1000) (w : World) :
    Calls Try.prog 29 #[.string (bz t)] w fun e W' => e = .returned (.bool (folderB t)) ∧ Below w.heap.size w W' := by
  have HN := fun W => isName_any t hl W
  replace HN := hide HN
  cases e1 : t.isEmpty with
  | true =>
    have hn : folderB t = true := by simp [folderB, isE, e1]
    rw [hn]
    clear hn
    go_enter Try.func29, Try.ntmps29
    go_wp2_with fail
    go_ret
    exact ⟨rfl, Below.refl _ _⟩
  | false =>
    have hn : folderB t = nameB t := by simp [folderB, isE, e1]
    rw [hn]
    clear hn
    go_enter Try.func29, Try.ntmps29
    go_wp2_with (go_at_call 31; refine (unhide HN _).mono ?_; rintro e w1 ⟨rfl, B1⟩)
    go_ret
    exact ⟨rfl, B1⟩
set_option maxHeartbeats 400000 in
theorem check_any (t : List UInt8) (hl : t.length ≤ 1000) (w : World) :
    Calls Try.prog 20 #[.string (bz t)] w fun e W' => e = .returned (.int .i64 (if nameB t then 0 else 1)) ∧ Below w.heap.size w W' := by
  have HN := fun W => isName_any t hl W
  cases e1 : nameB t with
  | true =>
    rw [e1] at HN
    clear e1
    replace HN := hide HN
    go_enter Try.func20, Try.ntmps20
    go_wp2_with (go_at_call 31; refine (unhide HN _).mono ?_; rintro e w1 ⟨rfl, B1⟩)
    go_ret
    exact ⟨rfl, B1⟩
  | false =>
    rw [e1] at HN
    clear e1
    replace HN := hide HN
    go_enter Try.func20, Try.ntmps20
    go_wp2_with (go_at_call 31; refine (unhide HN _).mono ?_; rintro e w1 ⟨rfl, B1⟩)
    go_ret
    exact ⟨rfl, B1⟩
set_option maxHeartbeats 400000 in
theorem join_any (d t : List UInt8) (hd : d.length ≤ 390) (hl : t.length ≤ 609) (w : World) :
    Calls Try.prog 12 #[.string (bz d), .string (bz t)] w fun e W' => e = .returned (.tuple #[.string (bz (joinF d t).1), .int .i64 (joinF d t).2]) ∧ Below w.heap.size w W' := by
  have HN := fun W => isFolder_any d (by omega) W
  cases e1 : folderB d with
  | false =>
    have hj : joinF d t = ([], 1) := by unfold joinF; rw [if_pos e1]
    rw [hj]
    rw [e1] at HN
    clear e1 hj
    replace HN := hide HN
    go_enter Try.func12, Try.ntmps12
    go_wp2_with (go_at_call 29; refine (unhide HN _).mono ?_; rintro e w1 ⟨rfl, B1⟩)
    go_ret2
    exact ⟨rfl, B1⟩
  | true =>
    have hj : joinF d t = cleanF (d ++ 47 :: t) := by unfold joinF; rw [if_neg (by rw [e1]; simp)]
    rw [hj]
    rw [e1] at HN
    have HC := fun W => clean_any (d ++ 47 :: t) (by simp; omega) W
    clear e1 hj
    rw [← bz_cat] at HC
    obtain ⟨⟨p, er⟩, hp⟩ : ∃ p, p = cleanF (d ++ 47 :: t) := ⟨_, rfl⟩
    rw [← hp] at HC ⊢
    clear hp
    replace HN := hide HN
    replace HC := hide HC
    go_enter Try.func12, Try.ntmps12
    go_wp2_with (first | (go_at_call 29; refine (unhide HN _).mono ?_; rintro e w1 ⟨rfl, B1⟩) | (go_at_call 10; refine (unhide HC _).mono ?_; rintro e w2 ⟨rfl, B2⟩))
    go_ret2
    exact ⟨rfl, B1.trans (B2.mono B1.size)⟩
theorem prefix_any (p d : List UInt8) (w : World) : Calls Try.prog 33 #[.string (bz p), .string (bz d ++ ⟨#[47]⟩)] w fun e w' => e = .returned (.bool ((d ++ [47]).isPrefixOf p)) ∧ w = w' := by
  rw [bz_sl]
  exact (Try.strings_HasPrefix (bz p) (bz (d ++ [47])) w).mono fun _ _ ⟨h1, h2⟩ => ⟨h1, h2.symm⟩
set_option maxHeartbeats 400000 in
theorem within_any (d t : List UInt8) (hd : d.length ≤ 390) (hl : t.length ≤ 609) (w : World) :
    Calls Try.prog 16 #[.string (bz d), .string (bz t)] w fun e W' => e = .returned (.tuple #[.bool (withinF d t).1, .int .i64 (withinF d t).2]) ∧ Below w.heap.size w W' := by
  have HF := fun W => isFolder_any d (by omega) W
  have HN := fun W => isName_any t (by omega) W
  cases e1 : folderB d with
  | false =>
    have hj : withinF d t = (false, 1) := by unfold withinF; rw [if_pos (.inl e1)]
    rw [hj]
    rw [e1] at HF
    clear e1 hj HN
    replace HF := hide HF
    go_enter Try.func16, Try.ntmps16
    go_wp2_with (go_at_call 29; refine (unhide HF _).mono ?_; rintro e w1 ⟨rfl, B1⟩)
    go_ret2
    exact ⟨rfl, B1⟩
  | true =>
    cases e2 : nameB t with
    | false =>
      have hj : withinF d t = (false, 1) := by unfold withinF; rw [if_pos (.inr e2)]
      rw [hj]
      rw [e1] at HF
      rw [e2] at HN
      clear e1 hj e2
      replace HF := hide HF
      replace HN := hide HN
      go_enter Try.func16, Try.ntmps16
      go_wp2_with (first | (go_at_call 29; refine (unhide HF _).mono ?_; rintro e w1 ⟨rfl, B1⟩) | (go_at_call 31; refine (unhide HN _).mono ?_; rintro e w2 ⟨rfl, B2⟩))
      go_ret2
      exact ⟨rfl, B1.trans (B2.mono B1.size)⟩
    | true =>
      have hj : withinF d t = (withinB d t, 0) := by unfold withinF; rw [if_neg (by rw [e1, e2]; simp)]
      rw [hj]
      rw [e1] at HF
      rw [e2] at HN
      clear e1 hj e2
      replace HF := hide HF
      replace HN := hide HN
      have HP := fun W => prefix_any t d W
      replace HP := hide HP
      cases e3 : d.isEmpty with
      | true =>
        have hw : withinB d t = true := by simp [withinB, isE, e3]
        rw [hw]
        clear hw
        go_enter Try.func16, Try.ntmps16
        go_wp2_with (first | (go_at_call 29; refine (unhide HF _).mono ?_; rintro e w1 ⟨rfl, B1⟩) | (go_at_call 31; refine (unhide HN _).mono ?_; rintro e w2 ⟨rfl, B2⟩))
        go_ret2
        exact ⟨rfl, B1.trans (B2.mono B1.size)⟩
      | false =>
        have hw : withinB d t = (d ++ [47]).isPrefixOf t := by simp [withinB, isE, e3]
        rw [hw]
        obtain ⟨b, hb⟩ : ∃ b, b = (d ++ [47]).isPrefixOf t := ⟨_, rfl⟩
        rw [← hb] at HP ⊢
        clear hw hb
        go_enter Try.func16, Try.ntmps16
        go_wp2_with (first | (go_at_call 29; refine (unhide HF _).mono ?_; rintro e w1 ⟨rfl, B1⟩) | (go_at_call 31; refine (unhide HN _).mono ?_; rintro e w2 ⟨rfl, B2⟩) | (go_at_call 33; refine (unhide HP _).mono ?_; rintro e w3 ⟨rfl, rfl⟩))
        go_ret2
        exact ⟨rfl, B1.trans (B2.mono B1.size)⟩
end Go.Proofs.Ythekgpmkoemmaaa
