import Derived.Test.YthekgpmkoemmaaaL6
namespace Go.Proofs.Ythekgpmkoemmaaa
open Go.RowKit
attribute [local go_sem] bz_size bz_toList
theorem splitF_no {p : List UInt8} (h : nameB p = false) : splitF p = ([], [], 1) := by unfold splitF; rw [if_pos h]
theorem splitF_one {p : List UInt8} (h : nameB p = true) (h47 : 47 ∉ p) : splitF p = ([], p, 0) := by
  unfold splitF
  rw [if_neg (by rw [h]; simp), (split_not p h47).1, (split_not p h47).2]
theorem splitF_two {u v : List UInt8} (h : nameB (u ++ 47 :: v) = true) (h47 : 47 ∉ v) : splitF (u ++ 47 :: v) = (u, v, 0) := by
  unfold splitF
  rw [if_neg (by rw [h]; simp), (split_has u v h47).1, (split_has u v h47).2]

set_option maxRecDepth 100000 in
set_option maxHeartbeats 1000000 in
theorem split_no (p d : List UInt8) (hp3 : p.length ≤ 300) (hd3 : d.length ≤ 300) (hn : nameB p = false) (w : World) : Calls Try.prog 5 #[.string (bz p), .string (bz d)] w fun e w' => e = .returned (.bool true) ∧ Below w.heap.size w w' := by
  have hL := fun W => live_any W
  replace hL := hide hL
  have HS := fun W => split_any p (by omega) W
  have HK := fun W => check_any p (by omega) W
  rw [splitF_no hn] at HS
  rw [hn] at HK
  have dp : decide ((300 : Int) < (p.length : Int)) = false := decide_eq_false (by omega)
  have dd : decide ((300 : Int) < (d.length : Int)) = false := decide_eq_false (by omega)
  clear hn
  replace HS := hide HS; replace HK := hide HK
  go_enter Try.func5, Try.ntmps5
  go_wp2_with (first
    | (go_at_call 9; refine (unhide hL _).mono ?_; rintro e w0 ⟨rfl, B0⟩)
    | (go_at_call 14; refine (unhide HS _).mono ?_; rintro e w1 ⟨rfl, B1⟩)
    | (go_at_call 20; refine (unhide HK _).mono ?_; rintro e w2 ⟨rfl, B2⟩))
  go_ret
  exact ⟨rfl, (ret_live (ret_live B0 B1) B2)⟩

set_option maxRecDepth 100000 in
set_option maxHeartbeats 1000000 in
theorem split_yes1 (p d : List UInt8) (hp3 : p.length ≤ 300) (hd3 : d.length ≤ 300) (hn : nameB p = true) (h47 : 47 ∉ p) (w : World) : Calls Try.prog 5 #[.string (bz p), .string (bz d)] w fun e w' => e = .returned (.bool true) ∧ Below w.heap.size w w' := by
  have hL := fun W => live_any W
  replace hL := hide hL
  have HS := fun W => split_any p (by omega) W
  have H1 := fun W => within_any [] p (by simp) (by omega) W
  have HJ := fun W => join_any [] p (by simp) (by omega) W
  have H2 := fun W => within_any d p (by omega) (by omega) W
  rw [splitF_one hn h47] at HS
  rw [withinF_yes folder_nil hn] at H1
  have dp : decide ((300 : Int) < (p.length : Int)) = false := decide_eq_false (by omega)
  have dd : decide ((300 : Int) < (d.length : Int)) = false := decide_eq_false (by omega)
  obtain ⟨⟨xJ, yJ⟩, qJ⟩ : ∃ q, q = joinF [] p := ⟨_, rfl⟩
  rw [← qJ] at HJ
  clear qJ
  cases hf : folderB d with
  | false =>
    rw [withinF_no (.inl hf)] at H2
    clear hf hn h47
    replace HS := hide HS; replace H1 := hide H1; replace HJ := hide HJ; replace H2 := hide H2
    have tk2 : True := trivial
    go_enter Try.func5, Try.ntmps5
    go_wp2_with (first
      | (go_at_call 9; refine (unhide hL _).mono ?_; rintro e w0 ⟨rfl, B0⟩)
      | (go_at_call 14; refine (unhide HS _).mono ?_; rintro e w1 ⟨rfl, B1⟩)
      | (go_at_call 16; have _t := tk2; refine (unhide H1 _).mono ?_; rintro e w2 ⟨rfl, B2⟩; clear tk2 _t)
      | (go_at_call 12; refine (unhide HJ _).mono ?_; rintro e w3 ⟨rfl, B3⟩)
      | (go_at_call 16; refine (unhide H2 _).mono ?_; rintro e w4 ⟨rfl, B4⟩))
    go_ret
    exact ⟨rfl, (ret_live (ret_live (ret_live (ret_live B0 B1) B2) B3) B4)⟩
  | true =>
    rw [withinF_yes hf hn, split_one h47] at H2
    clear hf hn h47
    cases he : d.isEmpty with
    | false =>
      rw [he] at H2
      replace HS := hide HS; replace H1 := hide H1; replace HJ := hide HJ; replace H2 := hide H2
      have tk2 : True := trivial
      go_enter Try.func5, Try.ntmps5
      go_wp2_with (first
        | (go_at_call 9; refine (unhide hL _).mono ?_; rintro e w0 ⟨rfl, B0⟩)
        | (go_at_call 14; refine (unhide HS _).mono ?_; rintro e w1 ⟨rfl, B1⟩)
        | (go_at_call 16; have _t := tk2; refine (unhide H1 _).mono ?_; rintro e w2 ⟨rfl, B2⟩; clear tk2 _t)
        | (go_at_call 12; refine (unhide HJ _).mono ?_; rintro e w3 ⟨rfl, B3⟩)
        | (go_at_call 16; refine (unhide H2 _).mono ?_; rintro e w4 ⟨rfl, B4⟩))
      go_ret
      exact ⟨rfl, (ret_live (ret_live (ret_live (ret_live B0 B1) B2) B3) B4)⟩
    | true =>
      rw [he] at H2
      replace HS := hide HS; replace H1 := hide H1; replace HJ := hide HJ; replace H2 := hide H2
      have tk2 : True := trivial
      go_enter Try.func5, Try.ntmps5
      go_wp2_with (first
        | (go_at_call 9; refine (unhide hL _).mono ?_; rintro e w0 ⟨rfl, B0⟩)
        | (go_at_call 14; refine (unhide HS _).mono ?_; rintro e w1 ⟨rfl, B1⟩)
        | (go_at_call 16; have _t := tk2; refine (unhide H1 _).mono ?_; rintro e w2 ⟨rfl, B2⟩; clear tk2 _t)
        | (go_at_call 12; refine (unhide HJ _).mono ?_; rintro e w3 ⟨rfl, B3⟩)
        | (go_at_call 16; refine (unhide H2 _).mono ?_; rintro e w4 ⟨rfl, B4⟩))
      go_ret
      exact ⟨rfl, (ret_live (ret_live (ret_live (ret_live B0 B1) B2) B3) B4)⟩

set_option maxRecDepth 100000 in
set_option maxHeartbeats 1000000 in
theorem split_yes2 (p d u v : List UInt8) (hp3 : p.length ≤ 300) (hd3 : d.length ≤ 300) (hn : nameB p = true) (e : p = u ++ 47 :: v) (h47 : 47 ∉ v) (w : World) : Calls Try.prog 5 #[.string (bz p), .string (bz d)] w fun e w' => e = .returned (.bool true) ∧ Below w.heap.size w w' := by
  have hL := fun W => live_any W
  replace hL := hide hL
  have hul : u.length ≤ 300 := by rw [e] at hp3; simp at hp3; omega
  have hvl : v.length ≤ 300 := by rw [e] at hp3; simp at hp3; omega
  have HS := fun W => split_any p (by omega) W
  have H1 := fun W => within_any u p (by omega) (by omega) W
  have HJ := fun W => join_any u v (by omega) (by omega) W
  have H2 := fun W => within_any d p (by omega) (by omega) W
  have H3 := fun W => within_any d u (by omega) (by omega) W
  have hn' := hn
  rw [e] at hn'
  obtain ⟨f1, f2, f3⟩ := split_two h47 hn'
  have f4 := @split_dir u v d h47
  rw [← e] at f2 f3 f4
  have f5 := splitF_two hn' h47
  rw [← e] at f5
  rw [f5] at HS
  rw [withinF_yes (folder_name f1) hn, f3] at H1
  rw [f2] at HJ
  have hu0 : u.isEmpty = false := by simpa using name_ne f1
  have dp : decide ((300 : Int) < (p.length : Int)) = false := decide_eq_false (by omega)
  have dd : decide ((300 : Int) < (d.length : Int)) = false := decide_eq_false (by omega)
  clear e h47 hn' f2 f3 f5
  cases hf : folderB d with
  | false =>
    rw [withinF_no (.inl hf)] at H2
    clear hf hn f1 f4 H3
    replace HS := hide HS; replace H1 := hide H1; replace HJ := hide HJ; replace H2 := hide H2
    have tk2 : True := trivial
    go_enter Try.func5, Try.ntmps5
    go_wp2_with (first
      | (go_at_call 9; refine (unhide hL _).mono ?_; rintro e w0 ⟨rfl, B0⟩)
      | (go_at_call 14; refine (unhide HS _).mono ?_; rintro e w1 ⟨rfl, B1⟩)
      | (go_at_call 16; have _t := tk2; refine (unhide H1 _).mono ?_; rintro e w2 ⟨rfl, B2⟩; clear tk2 _t)
      | (go_at_call 12; refine (unhide HJ _).mono ?_; rintro e w3 ⟨rfl, B3⟩)
      | (go_at_call 16; refine (unhide H2 _).mono ?_; rintro e w4 ⟨rfl, B4⟩))
    go_ret
    exact ⟨rfl, (ret_live (ret_live (ret_live (ret_live B0 B1) B2) B3) B4)⟩
  | true =>
    rw [withinF_yes hf hn] at H2
    rw [withinF_yes hf f1] at H3
    obtain ⟨X, hX⟩ : ∃ X, X = withinB d p := ⟨_, rfl⟩
    obtain ⟨Y, hY⟩ : ∃ X, X = withinB d u := ⟨_, rfl⟩
    rw [← hX] at H2 f4
    rw [← hY] at H3 f4
    clear hf hn f1 hX hY
    cases Y with
    | true =>
      obtain rfl : X = true := f4
      replace HS := hide HS; replace H1 := hide H1; replace HJ := hide HJ; replace H2 := hide H2; replace H3 := hide H3
      have tk2 : True := trivial
      have tk4 : True := trivial
      go_enter Try.func5, Try.ntmps5
      go_wp2_with (first
        | (go_at_call 9; refine (unhide hL _).mono ?_; rintro e w0 ⟨rfl, B0⟩)
        | (go_at_call 14; refine (unhide HS _).mono ?_; rintro e w1 ⟨rfl, B1⟩)
        | (go_at_call 16; have _t := tk2; refine (unhide H1 _).mono ?_; rintro e w2 ⟨rfl, B2⟩; clear tk2 _t)
        | (go_at_call 12; refine (unhide HJ _).mono ?_; rintro e w3 ⟨rfl, B3⟩)
        | (go_at_call 16; have _t := tk4; refine (unhide H2 _).mono ?_; rintro e w4 ⟨rfl, B4⟩; clear tk4 _t)
        | (go_at_call 16; refine (unhide H3 _).mono ?_; rintro e w5 ⟨rfl, B5⟩))
      go_ret
      exact ⟨rfl, (ret_live (ret_live (ret_live (ret_live (ret_live B0 B1) B2) B3) B4) B5)⟩
    | false =>
      cases hq : d == u with
      | true =>
        rw [hq] at f4
        obtain rfl : X = true := f4
        replace HS := hide HS; replace H1 := hide H1; replace HJ := hide HJ; replace H2 := hide H2; replace H3 := hide H3
        have tk2 : True := trivial
        have tk4 : True := trivial
        go_enter Try.func5, Try.ntmps5
        go_wp2_with (first
          | (go_at_call 9; refine (unhide hL _).mono ?_; rintro e w0 ⟨rfl, B0⟩)
          | (go_at_call 14; refine (unhide HS _).mono ?_; rintro e w1 ⟨rfl, B1⟩)
          | (go_at_call 16; have _t := tk2; refine (unhide H1 _).mono ?_; rintro e w2 ⟨rfl, B2⟩; clear tk2 _t)
          | (go_at_call 12; refine (unhide HJ _).mono ?_; rintro e w3 ⟨rfl, B3⟩)
          | (go_at_call 16; have _t := tk4; refine (unhide H2 _).mono ?_; rintro e w4 ⟨rfl, B4⟩; clear tk4 _t)
          | (go_at_call 16; refine (unhide H3 _).mono ?_; rintro e w5 ⟨rfl, B5⟩))
        go_ret
        exact ⟨rfl, (ret_live (ret_live (ret_live (ret_live (ret_live B0 B1) B2) B3) B4) B5)⟩
      | false =>
        rw [hq] at f4
        obtain rfl : X = false := f4
        replace HS := hide HS; replace H1 := hide H1; replace HJ := hide HJ; replace H2 := hide H2; replace H3 := hide H3
        have tk2 : True := trivial
        have tk4 : True := trivial
        go_enter Try.func5, Try.ntmps5
        go_wp2_with (first
          | (go_at_call 9; refine (unhide hL _).mono ?_; rintro e w0 ⟨rfl, B0⟩)
          | (go_at_call 14; refine (unhide HS _).mono ?_; rintro e w1 ⟨rfl, B1⟩)
          | (go_at_call 16; have _t := tk2; refine (unhide H1 _).mono ?_; rintro e w2 ⟨rfl, B2⟩; clear tk2 _t)
          | (go_at_call 12; refine (unhide HJ _).mono ?_; rintro e w3 ⟨rfl, B3⟩)
          | (go_at_call 16; have _t := tk4; refine (unhide H2 _).mono ?_; rintro e w4 ⟨rfl, B4⟩; clear tk4 _t)
          | (go_at_call 16; refine (unhide H3 _).mono ?_; rintro e w5 ⟨rfl, B5⟩))
        go_ret
        exact ⟨rfl, (ret_live (ret_live (ret_live (ret_live (ret_live B0 B1) B2) B3) B4) B5)⟩

set_option maxRecDepth 100000 in
set_option maxHeartbeats 1000000 in
theorem split_law (p d : List UInt8) (w : World) : Calls Try.prog 5 #[.string (bz p), .string (bz d)] w fun e w' => e = .returned (.bool true) ∧ Below w.heap.size w w' := by
  by_cases hp : p.length ≤ 300
  · by_cases hd : d.length ≤ 300
    · cases hn : nameB p with
      | false => exact split_no p d hp hd hn w
      | true =>
        rcases last_cases p with ⟨_, h47⟩ | ⟨u, v, e, h47, _⟩
        · exact split_yes1 p d hp hd hn h47 w
        · exact split_yes2 p d u v hp hd hn e h47 w
    · have hL := fun W => live_any W
      replace hL := hide hL
      have dp : decide ((300 : Int) < (p.length : Int)) = false := decide_eq_false (by omega)
      have dd : decide ((300 : Int) < (d.length : Int)) = true := decide_eq_true (by omega)
      go_enter Try.func5, Try.ntmps5
      go_wp2_with (first
        | (go_at_call 9; refine (unhide hL _).mono ?_; rintro e w0 ⟨rfl, B0⟩))
      go_ret
      exact ⟨rfl, B0⟩
  · have hL := fun W => live_any W
    replace hL := hide hL
    have dp : decide ((300 : Int) < (p.length : Int)) = true := decide_eq_true (by omega)
    go_enter Try.func5, Try.ntmps5
    go_wp2_with (first
      | (go_at_call 9; refine (unhide hL _).mono ?_; rintro e w0 ⟨rfl, B0⟩))
    go_ret
    exact ⟨rfl, B0⟩
end Go.Proofs.Ythekgpmkoemmaaa
