import Derived.Test.YthekgpmkoemmaaaC5
import Derived.IntWalk
namespace Go.Proofs.Ythekgpmkoemmaaa
open Go.RowKit
attribute [local go_sem] bz_size bz_toList

/-! ### the last slash -/
theorem parts_snoc (u v : List UInt8) (h : 47 ∉ v) : parts (u ++ 47 :: v) = parts u ++ [v] := by
  induction u with
  | nil => simp [parts, parts_noslash v h]
  | cons c u ih =>
    rw [List.cons_append, parts, parts, ih]
    by_cases hc : c = 47
    · rw [if_pos hc, if_pos hc]; rfl
    · rw [if_neg hc, if_neg hc]
      cases hp : parts u with
      | nil => exact absurd hp (parts_ne u)
      | cons p ps => rfl
theorem bang_eq (l : List UInt8) (j : Nat) (hj : j < l.length) : (bz l).data[j]! = l[j] := by
  show l.toArray[j]! = l[j]
  rw [getElem!_pos l.toArray j (by simpa using hj)]
  simp
theorem toNat_47 {c : UInt8} : ((c.toNat : Int) = 47) ↔ c = 47 := by
  constructor
  · intro h
    have : c.toNat = 47 := by omega
    exact UInt8.toNat_inj.1 (by rw [this]; rfl)
  · rintro rfl; rfl
theorem last_cases (l : List UInt8) : (Lib.lastIndexByte (bz l) 47 = -1 ∧ 47 ∉ l) ∨ ∃ u v, l = u ++ 47 :: v ∧ 47 ∉ v ∧ Lib.lastIndexByte (bz l) 47 = (u.length : Int) := by
  rcases Lib.lastIndexByte_spec (bz l) 47 with ⟨e, h⟩ | ⟨i, hi, e, hc, h⟩
  · refine .inl ⟨e, fun hm => ?_⟩
    obtain ⟨j, hj, hjc⟩ := List.mem_iff_getElem.1 hm
    refine h j hj ?_
    rw [bang_eq l j hj, hjc]; rfl
  · have hi' : i < l.length := hi
    rw [bang_eq l i hi', toNat_47] at hc
    refine .inr ⟨l.take i, l.drop (i + 1), ?_, fun hm => ?_, by rw [e, List.length_take]; omega⟩
    · conv => lhs; rw [← List.take_append_drop i l]
      rw [List.drop_eq_getElem_cons hi', hc]
    · obtain ⟨j, hj, hjc⟩ := List.mem_iff_getElem.1 hm
      rw [List.length_drop] at hj
      rw [List.getElem_drop] at hjc
      refine h (i + 1 + j) (by omega) (by rw [bz_size]; omega) ?_
      rw [bang_eq l (i + 1 + j) (by omega), hjc]; rfl
theorem split_has (u v : List UInt8) (h : 47 ∉ v) : jn (parts (u ++ 47 :: v)).dropLast = u ∧ (parts (u ++ 47 :: v)).getLastD [] = v := by
  rw [parts_snoc u v h, List.dropLast_concat, jn_parts]
  exact ⟨rfl, by rw [List.getLastD_concat]⟩
theorem split_not (l : List UInt8) (h : 47 ∉ l) : jn (parts l).dropLast = [] ∧ (parts l).getLastD [] = l := by
  rw [parts_noslash l h]; exact ⟨rfl, rfl⟩
theorem lastIndex_any (l : List UInt8) (hl : l.length ≤ 1000) (w : World) : Calls Try.prog 32 #[.string (bz l), .string ⟨#[47]⟩] w fun e w' => e = .returned (.int .i64 (Lib.lastIndexByte (bz l) 47)) ∧ w = w' :=
  (Try.strings_LastIndex_one (bz l) ⟨#[47]⟩ rfl (by rw [bz_size]; omega) w).mono fun _ _ ⟨h1, h2⟩ => ⟨h1, h2.symm⟩

set_option maxHeartbeats 1000000 in
theorem split_walk (t d v : List UInt8) (hl : t.length ≤ 1000) (hn : nameB t = true) (z : Int) (hz : Lib.lastIndexByte (bz t) 47 = z) (m k : Nat) (hm : max z 0 = (m : Int)) (hk : z + 1 = (k : Int)) (hmt : m ≤ t.length) (hkt : k ≤ t.length)
    (e1 : (bz t).extract 0 m = bz d) (e2 : (bz t).extract k t.length = bz v) (hd : d.length ≤ 1000) (hv : v.length ≤ 1000) (w : World) :
    Calls Try.prog 14 #[.string (bz t)] w fun e W' => e = .returned (.tuple #[.string (bz d), .string (bz v), .int .i64 0]) ∧ Below w.heap.size w W' := by
  have HN := fun W => isName_any t hl W
  have HL := fun W => lastIndex_any t hl W
  have HD := fun W => clone24_any d hd W
  have HV := fun W => clone24_any v hv W
  rw [← e1] at HD
  rw [← e2] at HV
  rw [hn] at HN
  rw [hz] at HL
  have E1 := hide e1
  have E2 := hide e2
  replace HN := hide HN
  replace HL := hide HL
  replace HD := hide HD
  replace HV := hide HV
  clear hn hz e1 e2 hd hv
  go_enter Try.func14, Try.ntmps14
  go_wp2_with (first | (go_at_call 31; refine (unhide HN _).mono ?_; rintro e w1 ⟨rfl, B1⟩) | (go_at_call 32; refine (unhide HL _).mono ?_; rintro e w2 ⟨rfl, rfl⟩))
  have hw : IntKind.i64.wrap (z + 1) = (k : Int) := by rw [← hk]; exact IntWalk.i64_in _ (by omega)
  have hmx : max z 0 = (m : Int) := hm
  have c1 : (m : Int) ≤ (t.length : Int) := by omega
  have c2 : (k : Int) ≤ (t.length : Int) := by omega
  clear hm hk hmt hkt
  have tk1 : True := trivial
  have tk2 : True := trivial
  go_region_held3 (fun _ => True) (trivial) (first
    | (go_at_call 24; have _t := tk1; refine (unhide HD _).mono ?_; rintro e w3 ⟨rfl, B3⟩; clear tk1 _t)
    | (go_at_call 24; have _t := tk2; refine (unhide HV _).mono ?_; rintro e w4 ⟨rfl, B4⟩; clear tk2 _t))
  go_wp2_with (fail)
  refine bodyPost_ret (v := .tuple #[.string ((bz t).extract 0 m), .string ((bz t).extract k t.length), .int .i64 0]) (by simp [results, Try.results14, go_sem]) rfl ⟨by rw [unhide E1, unhide E2], ?_⟩
  have h3 : Below w1.heap.size w1 w3 := ⟨B3.os, B3.tape, B3.output, B3.size, B3.block⟩
  exact B1.trans ((h3.trans (B4.mono h3.size)).mono B1.size)

set_option maxHeartbeats 400000 in
theorem split_any (t : List UInt8) (hl : t.length ≤ 1000) (w : World) :
    Calls Try.prog 14 #[.string (bz t)] w fun e W' => e = .returned (.tuple #[.string (bz (splitF t).1), .string (bz (splitF t).2.1), .int .i64 (splitF t).2.2]) ∧ Below w.heap.size w W' := by
  cases hn : nameB t with
  | false =>
    have hj : splitF t = ([], [], 1) := by unfold splitF; rw [if_pos hn]
    rw [hj]
    have HN := fun W => isName_any t hl W
    rw [hn] at HN
    clear hn hj
    replace HN := hide HN
    go_enter Try.func14, Try.ntmps14
    go_wp2_with (go_at_call 31; refine (unhide HN _).mono ?_; rintro e w1 ⟨rfl, B1⟩)
    go_ret3
    exact ⟨rfl, B1⟩
  | true =>
    have hj : splitF t = (jn (parts t).dropLast, (parts t).getLastD [], 0) := by unfold splitF; rw [if_neg (by rw [hn]; simp)]
    rw [hj]
    rcases last_cases t with ⟨e, h47⟩ | ⟨u, v, e, h47, hz⟩
    · rw [(split_not t h47).1, (split_not t h47).2]
      refine split_walk t [] t hl hn (-1) e 0 0 rfl rfl (Nat.zero_le _) (Nat.zero_le _) ?_ ?_ (by simp) hl w
      · rw [bz_ext]; simp
      · rw [bz_ext]; simp
    · have h1 : (splitF t).1 = u := by rw [hj, e]; exact (split_has u v h47).1
      have hlen : t.length = u.length + 1 + v.length := by rw [e]; simp; omega
      rw [show jn (parts t).dropLast = u by rw [e]; exact (split_has u v h47).1, show (parts t).getLastD [] = v by rw [e]; exact (split_has u v h47).2]
      refine split_walk t u v hl hn u.length hz u.length (u.length + 1) (by omega) rfl (by omega) (by omega) ?_ ?_ (by omega) (by omega) w
      · rw [bz_ext, e]; simp
      · have hdr : t.drop (u.length + 1) = v := by rw [e, List.drop_append, List.drop_of_length_le (by omega)]; simp
        rw [bz_ext, hdr, List.take_of_length_le (by omega)]

set_option maxHeartbeats 400000 in
theorem live_any (w : World) : Calls Try.prog 9 #[] w fun e W' => e = .returned (.bool true) ∧ Below w.heap.size w W' := by
  have HC := fun W => clean_any [97, 47, 47, 98, 47, 46, 47, 99, 47, 46, 46, 47, 100] (by decide) W
  have e : cleanF [97, 47, 47, 98, 47, 46, 47, 99, 47, 46, 46, 47, 100] = ([97, 47, 98, 47, 100], 0) := by decide
  rw [e] at HC
  clear e
  replace HC : ∀ W, Calls Try.prog 10 #[.string ⟨#[97, 47, 47, 98, 47, 46, 47, 99, 47, 46, 46, 47, 100]⟩] W fun e W' => e = .returned (.tuple #[.string ⟨#[97, 47, 98, 47, 100]⟩, .int .i64 0]) ∧ Below W.heap.size W W' := HC
  replace HC := hide HC
  go_enter Try.func9, Try.ntmps9
  go_wp2_with (go_at_call 10; refine (unhide HC _).mono ?_; rintro e w1 ⟨rfl, B1⟩)
  go_ret
  exact ⟨rfl, B1⟩
end Go.Proofs.Ythekgpmkoemmaaa
