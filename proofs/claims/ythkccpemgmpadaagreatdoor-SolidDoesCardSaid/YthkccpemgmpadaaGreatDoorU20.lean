import Derived.Test.YthkccpemgmpadaaGreatDoorU19
import Derived.Test.YthkccpemgmpadaaGreatDoorU17
namespace Go.Proofs.YthkccpemgmpadaaGreatDoor.P
set_option maxRecDepth 100000
open Go.RowKit
set_option maxHeartbeats 1000000 in
theorem grow_any (n : Nat) (w : World) (h0 : 0 < n) (hn : n ≤ 1000000) :
    Calls Tryz.prog 38 #[.slice none 0 0, .int .i64 n] w fun e w' => ∃ A c, e = .returned (.slice A 0 c) ∧ w'.ownsRow w.heap.size 5 1 (.slice A 0 c) 0 [] ∧ Below w.heap.size w w' := by
  obtain ⟨i0, hi0, hz0, hz1, hz2⟩ := info5'
  have hrun := fun W => Lib.run_append_nil_zeros (P := Tryz.prog) W 29 3 29 5 i0 _ .i64 .i64 Tryz.underlying29 Tryz.underlying3 hi0 hz0 n h0 (by rw [hz1]; omega) (by omega) (by rw [hz2]; omega)
  have hge := grownCap_ge w n 0 5
  have hle := grownCap_le_maxLen w n 0 5 (by simp [maxLen]; omega)
  have y0 : (0 : Int) < (n : Int) := by omega
  have y1 : (0 : Int) ≤ (n : Int) := by omega
  replace hrun := hide hrun
  go_enter Tryz.func38, Tryz.ntmps38
  go_wp2_with (first
    | (at_builtin
       refine Lib.wpList_append_run _ rfl (.tmp 20) (.tmp 21) 29 3 rfl _ _ rfl rfl _ _ (unhide hrun _) ?_)
    | fail)
  go_ret
  refine ⟨_, _, rfl, own_drew (own_fresh _ _ _ 5 1 _ _ rfl (Nat.le_refl _) hle ?_), by (repeat (first | with_reducible exact Below.refl _ _ | with_reducible assumption | with_reducible refine Below.drew ?_ | with_reducible refine bl_alloc ?_ _ | with_reducible refine bl_call ?_ (by assumption) | (focus (with_reducible refine Below.setCell ?_ ?_ _; rotate_left; focus (first | omega | (simp <;> omega)))) | fail))⟩
  simp [Builtin.zeroCells]
  omega
def Lists (lo : Nat) (w : World) (g : Nat) (Ls : List (List Int)) : Prop :=
  ∀ k (hk : k < Ls.length), ∃ A c, w.cell? ⟨g, k, none⟩ = some (.slice A Ls[k].length c) ∧ Os lo w.heap.size w (.slice A Ls[k].length c) Ls[k]
theorem take_flat {Ls : List (List Int)} {k : Nat} (hk : k < Ls.length) : (Ls.take (k + 1)).flatten = (Ls.take k).flatten ++ Ls[k] := by
  have h : Ls.take (k + 1) = Ls.take k ++ [Ls[k]] := by
    rw [List.take_add_one, List.getElem?_eq_getElem hk]; rfl
  rw [h, List.flatten_append, List.flatten_singleton]
def upto (Ls : List (List Int)) (k : Nat) : Nat := (Ls.take k).flatten.length
theorem upto_succ {Ls : List (List Int)} {k : Nat} (hk : k < Ls.length) : upto Ls (k + 1) = upto Ls k + Ls[k].length := by
  unfold upto; rw [take_flat hk, List.length_append]
def cat (Ls : List (List Int)) (k : Nat) : List Int := (Ls.take k).flatten
theorem cat_succ {Ls : List (List Int)} {k : Nat} (hk : k < Ls.length) : cat Ls (k + 1) = cat Ls k ++ Ls[k] := take_flat hk
theorem upto_cat (Ls : List (List Int)) (k : Nat) : (cat Ls k).length = upto Ls k := rfl
theorem flat_le (Ls : List (List Int)) (k : Nat) : upto Ls k ≤ upto Ls Ls.length := by
  unfold upto
  rw [List.take_length]
  have h : Ls.flatten = (Ls.take k).flatten ++ (Ls.drop k).flatten := by rw [← List.flatten_append, List.take_append_drop]
  rw [h]; simp
set_option maxHeartbeats 2000000 in
theorem concat_any (lo g : Nat) (Ls : List (List Int)) (w : World) (h : Lists lo w g Ls) (hg : g < w.heap.size) (hn : Ls.length ≤ 1000) (h0 : 0 < upto Ls Ls.length) (hL : upto Ls Ls.length ≤ 1000000) :
    Calls Tryz.prog 20 #[.slice (some ⟨g, 0, none⟩) Ls.length Ls.length] w fun e w' => ∃ A c, e = .returned (.slice A (upto Ls Ls.length) c) ∧ w'.ownsRow w.heap.size 5 1 (.slice A (upto Ls Ls.length) c) (upto Ls Ls.length) ((cat Ls Ls.length).flatMap byc) ∧ Below w.heap.size w w' := by
  obtain ⟨i0, hi0, hz0, hz1, hz2⟩ := info5'
  obtain ⟨n, hn'⟩ : ∃ n, n = Ls.length := ⟨_, rfl⟩
  have hfl := flat_le Ls
  have hgrow := fun W => grow_any (upto Ls Ls.length) W h0 hL
  rw [← hn'] at hfl hgrow hL h0 ⊢
  replace h := hide h; replace hn' := hide hn'; replace hfl := hide hfl; replace hgrow := hide hgrow
  have hn2 : n ≤ 1000 := by rw [unhide hn']; exact hn
  clear hn
  go_enter Tryz.func20, Tryz.ntmps20
  go_wp2_with fail
  go_loopw [3, 11] (fun s3 s11 wr => ∃ k : Nat, k ≤ n ∧ s11 = .int .i64 k ∧ s3 = .int .i64 (upto Ls k : Nat) ∧ w = wr) (fun _ i _ => n - (intOf i).toNat)
  case atStart => exact ⟨0, by omega, rfl, rfl, rfl⟩
  case round =>
    obtain ⟨k, hk, rfl, rfl, rfl⟩ := hrel
    by_cases hlt : k < n
    · have hlt' : k < Ls.length := by rw [← unhide hn']; exact hlt
      obtain ⟨A, c, hc, _⟩ := unhide h k hlt'
      have ha : upto Ls (k + 1) = upto Ls k + Ls[k].length := upto_succ hlt'
      have hb := unhide hfl (k + 1)
      rw [ha] at hb
      generalize ha1 : upto Ls k = a at *
      generalize Ls[k].length = b at *
      replace ha := hide ha
      have w1 : (0 : Int) ≤ (a : Int) + (b : Int) := by omega
      have w2 : (a : Int) + (b : Int) ≤ 1000000 := by omega
      go_wp2_with fail
      go_roundw
      case rel => exact ⟨k + 1, by omega, by go_num, by rw [unhide ha]; go_num, by simp⟩
      case measure => simp [intOf]; omega
    · obtain rfl : k = n := by omega
      have hgz : Hid (g < w.heap.size) := hg
      go_wp2_with (go_at_call 38; refine (unhide hgrow _).mono ?_; rintro e w1 ⟨A1, c1, rfl, hown, hb1⟩)
      replace hown := hide hown; replace hb1 := hide hb1
      go_loopw [6, 27] (fun s6 s27 wx => ∃ (j : Nat) (A2 : Option Addr) (c2 : Nat), j ≤ k ∧ s27 = .int .i64 j ∧ s6 = .slice A2 (upto Ls j) c2 ∧ Hid (wx.ownsRow w.heap.size 5 1 (.slice A2 (upto Ls j) c2) (upto Ls j) ((cat Ls j).flatMap byc)) ∧ Hid (Below w.heap.size w wx)) (fun _ i _ => k - (intOf i).toNat)
      case atStart => exact ⟨0, A1, c1, by omega, rfl, rfl, hide (unhide hown), hb1⟩
      case round =>
        obtain ⟨j, A2, c2, hj, rfl, rfl, o2, b2⟩ := hrel
        by_cases hlt2 : j < k
        · have hlt' : j < Ls.length := by rw [← unhide hn']; exact hlt2
          obtain ⟨A, c, hc, hx⟩ := unhide h j hlt'
          have ha : cat Ls (j + 1) = cat Ls j ++ Ls[j] := cat_succ hlt'
          have ha' : upto Ls (j + 1) = upto Ls j + Ls[j].length := upto_succ hlt'
          have hb := unhide hfl (j + 1)
          rw [ha'] at hb
          have hsrc := SrcOk.below (Rd.src byc_len hx).2 (unhide b2)
          have hc' := ((unhide b2).cell (p := ⟨g, j, none⟩) hg).trans hc
          have hgx : g < wr.heap.size := Nat.lt_of_lt_of_le hg (unhide b2).size
          have hnl : (Ls[j].flatMap byc).length = Ls[j].length * 1 := flat_len byc_len _
          have hno := flat_one byc_one Ls[j]
          have hsz := (unhide b2).size
          generalize Ls[j] = N at *
          generalize upto Ls j = m at *
          have u1 : m + N.length ≤ maxLen := by simp only [maxLen]; omega
          have u2 : (m + N.length) * 1 ≤ 140737488355328 := by omega
          replace ha := hide ha; replace hsrc := hide hsrc; replace hnl := hide hnl; replace hno := hide hno; replace u1 := hide u1; replace u2 := hide u2; replace hb := hide hb
          replace ha' := hide ha'
          clear hc hx
          go_wp2_with (first
            | (at_builtin
               refine wpList_app _ rfl (.tmp 31) (.tmp 32) 29 rfl w.heap.size 5 i0 _ 1 1 Tryz.underlying29 hi0 hz0 hz1 hz2 rfl (Nat.succ_pos _) _ m ((cat Ls j).flatMap byc) rfl (unhide o2) A N.length c (N.flatMap byc) rfl (unhide hnl) (unhide hsrc) (unhide hno) (unhide u1) (unhide u2) hsz ?_
               intro v' w2 hown2 hg2
               obtain ⟨A3, c3, rfl⟩ := ownsRow_form hown2))
          have hal : (cat Ls j).flatMap byc ++ N.flatMap byc = (cat Ls (j + 1)).flatMap byc := by rw [unhide ha, List.flatMap_append]
          rw [hal, ← unhide ha'] at hown2
          go_roundw
          case rel => exact ⟨j + 1, A3, c3, by omega, by go_num, by rw [unhide ha'], hide hown2, hide (bl_grown (unhide b2) hg2 (own_base (unhide o2)))⟩
          case measure => simp [intOf]; omega
        · obtain rfl : j = k := by omega
          go_wp2_with fail
          go_ret
          exact ⟨A2, c2, rfl, unhide o2, unhide b2⟩
end Go.Proofs.YthkccpemgmpadaaGreatDoor.P

namespace Go.Proofs.YthkccpemgmpadaaGreatDoor.P
set_option maxRecDepth 100000
theorem treeR_ge {t : List Int} {c : Int} (n m : Nat) {r : Rdr} {x : Nat × Rdr} (h : treeR t c n m r = some x) : m * 2 ^ n ≤ x.1 ∧ x.1 < (m + 1) * 2 ^ n := by
  induction n generalizing m r with
  | zero => rw [treeR] at h; injection h with h; subst h; simp
  | succ n ih =>
    rw [treeR] at h
    split at h
    · obtain ⟨a, b⟩ := ih _ h
      rw [Nat.pow_succ]
      generalize 2 ^ n = P at *
      have e1 : m * (P * 2) = 2 * m * P := by rw [Nat.mul_comm P 2, ← Nat.mul_assoc, Nat.mul_comm m 2]
      have e2 : (m + 1) * (P * 2) = 2 * m * P + 2 * P := by rw [Nat.add_mul, Nat.one_mul, e1]; omega
      rw [e1, e2]
      split at a <;> split at b <;> simp only [Nat.add_mul, Nat.one_mul, Nat.add_zero] at a b <;> omega
    · cases h
theorem tokR_ok {t : List Int} {r : Rdr} {x : Tok × Rdr} (h : tokR t r = some x) : okT x.1 = true := by
  unfold tokR at h
  split at h
  · split at h
    · split at h
      · cases h
      · rename_i m r1 h3
        split at h
        · cases h
        · rename_i q r2 h4
          injection h with h
          subst h
          have a := treeR_ge _ _ h3
          have b := treeR_ge _ _ h4
          simp only [] at a b
          unfold okT
          simp only []
          rw [if_neg (by omega)]
          simp
          omega
    · split at h
      · cases h
      · rename_i m r1 h3
        injection h with h
        subst h
        simp [okT]
  · cases h
theorem toksR_told {t : List Int} {n : Int} (f : Nat) {told : Int} {r : Rdr} {acc : List Tok} {x : List Tok × Rdr} (h : toksR t n f told r acc = some x) (hf : n ≤ told + f) : ∃ l, x.1 = acc ++ l ∧ n ≤ told + sumT l := by
  induction f generalizing told r acc with
  | zero => rw [toksR] at h; injection h with h; subst h; exact ⟨[], by simp, by simp [sumT]; omega⟩
  | succ f ih =>
    rw [toksR] at h
    split at h
    · split at h
      · cases h
      · rename_i y r' h2
        have hs := okT_size (tokR_ok h2)
        simp only [] at hs
        obtain ⟨l, e, hl⟩ := ih h (by omega)
        refine ⟨y :: l, by rw [e, List.append_assoc]; rfl, ?_⟩
        have : sumT (y :: l) = sizeT y + sumT l := rfl
        omega
    · injection h with h
      subst h
      exact ⟨[], by simp, by simp [sumT]; omega⟩
theorem unpack_most {t : List Int} {most : Int} (ht : okB t) : ((unpackR t most).2 = 0 ∧ (longR t).2 = 0 ∧ ((unpackR t most).1.length : Int) = (longR t).1 ∧ (longR t).1 ≤ most) ∨
    ((unpackR t most).1 = [] ∧ ((unpackR t most).2 = 2 ∨ ((unpackR t most).2 = 3 ∧ (longR t).2 = 0 ∧ most < (longR t).1) ∨ ((unpackR t most).2 = 1 ∧ most < 0))) := by
  unfold unpackR
  by_cases h1 : most < 0
  · rw [if_pos h1]; exact .inr ⟨rfl, .inr (.inr ⟨rfl, h1⟩)⟩
  rw [if_neg h1]
  by_cases h2 : (longR t).2 ≠ 0
  · rw [if_pos h2]; exact .inr ⟨rfl, .inl rfl⟩
  rw [if_neg h2]
  have h2' : (longR t).2 = 0 := by simpa using h2
  have hl : (longR t).1 = longN t := by
    unfold longR at h2' ⊢
    split
    · rename_i h; rw [if_pos h] at h2'; cases h2'
    · rfl
  have hn0 : 0 ≤ longN t := by
    have hg : ∀ i, 0 ≤ t.getD i 0 := fun i => by
      rw [List.getD_eq_getElem?_getD]
      cases hh : t[i]? with
      | none => simp
      | some y => exact (ht y (List.mem_of_getElem? hh)).1
    have := hg 0; have := hg 1; have := hg 2; have := hg 3
    unfold longN; omega
  by_cases h3 : most < longN t
  · rw [if_pos h3]; exact .inr ⟨rfl, .inr (.inl ⟨rfl, h2', by omega⟩)⟩
  rw [if_neg h3]
  by_cases h4 : startE 528 (t.drop 4) ≠ 0
  · rw [if_pos h4]; exact .inr ⟨rfl, .inl rfl⟩
  rw [if_neg h4]
  split
  · exact .inr ⟨rfl, .inl rfl⟩
  · rename_i l r hh
    by_cases h5 : (okL 0 l && decide (sumT l ≤ longN t) && decide (r.used = (t.drop 4).length)) = true
    · rw [if_pos h5]
      simp only [Bool.and_eq_true, decide_eq_true_eq] at h5
      obtain ⟨⟨k1, k2⟩, k3⟩ := h5
      obtain ⟨l', e, hs⟩ := toksR_told _ hh (by omega)
      simp only [List.nil_append] at e
      subst e
      have := textF_len (b := []) k1
      simp only [List.length_nil] at this
      exact .inl ⟨rfl, h2', by simp only []; rw [hl]; omega, by omega⟩
    · rw [if_neg h5]; exact .inr ⟨rfl, .inl rfl⟩
end Go.Proofs.YthkccpemgmpadaaGreatDoor.P

namespace Go.Proofs.YthkccpemgmpadaaGreatDoor.P.E
set_option maxRecDepth 100000
theorem rep_get (n : Nat) (c : UInt8) (i : Nat) (h : i < n) : (List.replicate n c).getD i 0 = c := by
  rw [List.getD_eq_getElem?_getD, List.getElem?_replicate, if_pos h]; rfl
theorem pack_len {b : List UInt8} (hb : b.length ≤ 65536) : (packT b).length ≤ 16 + 9 * b.length := by
  have h1 := bitsF_len (toksB_text b).2
  rw [toksB_sum] at h1
  have h2 := (short_len (toksB_bits hb)).2
  have h3 := (packT_len hb).1
  omega
end Go.Proofs.YthkccpemgmpadaaGreatDoor.P.E

namespace Go.Proofs.YthkccpemgmpadaaGreatDoor.P
set_option maxRecDepth 100000
open Go.RowKit
theorem toksB_okB {b : List UInt8} (hb : b.length ≤ 65536) : M.okB (toksB b) = true := M.okB_iff.2 ⟨Nat.le_trans (toksB_len b) hb, (toksB_text b).2⟩
theorem toksB_bitsLen (b : List UInt8) : (bitsF (toksB b)).length ≤ 9 * b.length := by
  have h1 := bitsF_len (toksB_text b).2
  rw [toksB_sum] at h1
  omega
theorem lists2 {w : World} {g : Nat} {v1 v2 : Value} {l1 l2 : List Int} (hg : Blk w g 29 #[v1, v2]) (h1 : Os 0 w.heap.size w v1 l1) (h2 : Os 0 w.heap.size w v2 l2) : Lists 0 w g [l1, l2] := by
  intro k hk
  have e0 : k = 0 ∨ k = 1 := by simp at hk; omega
  rcases e0 with rfl | rfl
  · obtain ⟨A, c, rfl, r⟩ := id h1
    exact ⟨A, c, hg.cell 0, h1⟩
  · obtain ⟨A, c, rfl, r⟩ := id h2
    exact ⟨A, c, hg.cell 1, h2⟩
set_option maxHeartbeats 2000000 in
theorem Pack_good (lo : Nat) (v : Value) (b : List UInt8) (w : World) (h : M.Bs lo w.heap.size w v b) (hl : b.length ≤ 1000) :
    Calls Tryz.prog 28 #[v] w fun e w' => ∃ A c, e = .returned (.tuple #[.slice A (packT b).length c, .int .i64 0]) ∧ w'.ownsRow w.heap.size 5 1 (.slice A (packT b).length c) (packT b).length ((packT b).flatMap byc) ∧ Below w.heap.size w w' := by
  have hT := M.Tokens_any lo v b w h (by omega)
  have hbl := toksB_bitsLen b
  have hB := fun (v : Value) (W : World) (lo : Nat) (k : M.Tks lo W.heap.size W v (toksB b)) => Bits_good lo v (toksB b) W k (toksB_okB (by omega))
  have hE := fun (v : Value) (W : World) (lo : Nat) (k : Bts lo W.heap.size W v (bitsF (toksB b))) => Encode_any 528 lo v (bitsF (toksB b)) W k (by omega)
  rw [toksB_bits (by omega)] at hE
  have hO := fun (W : World) => octets_any (b.length : Int) (by omega) (by omega) W
  have hpl := packT_len (b := b) (by omega)
  have hen := (short_len (toksB_bits (b := b) (by omega))).2
  have hP : packT b = le4 b.length ++ encT 528 (bitsF (toksB b)) := rfl
  obtain ⟨A, c, rfl, h1, h2, _⟩ := h.open
  clear h
  generalize packT b = T at *
  generalize encT 528 (bitsF (toksB b)) = E at *
  generalize bitsF (toksB b) = bits at *
  generalize toksB b = ts at *
  have hC := fun (g : Nat) (W : World) (k : Lists 0 W g [le4 b.length, E]) (hg : g < W.heap.size) => concat_any 0 g [le4 b.length, E] W k hg (by simp) (by simp [upto, le4]) (by
    have : (le4 (b.length : Int)).length = 4 := rfl
    simp [upto]; omega)
  have hu : upto [le4 (b.length : Int), E] [le4 (b.length : Int), E].length = T.length := by rw [hP]; simp [upto]
  have hc : cat [le4 (b.length : Int), E] [le4 (b.length : Int), E].length = T := by rw [hP]; simp [cat]
  rw [hu, hc] at hC
  replace hC : ∀ (g : Nat) (W : World) (k : Lists 0 W g [le4 (b.length : Int), E]) (hg : g < W.heap.size), Calls Tryz.prog 20 #[.slice (some ⟨g, 0, none⟩) 2 2] W fun e w' => ∃ A c, e = .returned (.slice A T.length c) ∧ w'.ownsRow W.heap.size 5 1 (.slice A T.length c) T.length (T.flatMap byc) ∧ Below W.heap.size W w' := hC
  replace hT := hide hT; replace hB := hide hB; replace hE := hide hE; replace hO := hide hO; replace hC := hide hC
  clear hu hc hP hpl hen hbl hl
  generalize le4 (b.length : Int) = L4 at *
  go_enter Tryz.func28, Tryz.ntmps28
  go_wp2_with (first
    | (go_at_call 54; refine (unhide hT).mono ?_; rintro e w1 ⟨A1, c1, rfl, o1, hb1⟩; replace hb1 := hide hb1; have t1 := hide (M.Tks.own o1); clear o1)
    | (go_at_call 55; refine (unhide hB _ _ _ (unhide t1)).mono ?_; rintro e w2 ⟨A2, c2, rfl, o2, hb2⟩; replace hb2 := hide (bl_call (unhide hb1) hb2); have t2 := hide (Rd.of_own btc_len (by omega) o2); clear o2)
    | (go_at_call 56; refine (unhide hE _ _ _ (unhide t2)).mono ?_; rintro e w3 ⟨A3, c3, rfl, o3, hb3⟩; replace hb3 := hide (bl_call (unhide hb2) hb3); replace o3 := hide o3)
    | (go_at_call 57; refine (unhide hO _).mono ?_; rintro e w4 ⟨g4, rfl, o4, hb4⟩
       have t3 := (Rd.of_own byc_len (by omega) (own_below (unhide o3) hb4 (Nat.le_refl _)))
       have t4 := (Rd.of_own byc_len (by omega) o4)
       replace hb4 := hide (bl_call (unhide hb3) hb4)
       replace t3 := hide t3; replace t4 := hide t4; clear o3 o4)
    | (go_at_call 20; refine (unhide hC _ _ (lists2 (Blk.new rfl) ((((unhide t4).grow ((Below.refl _ _).alloc (Nat.le_refl _) _))).mono (Nat.zero_le _) (Nat.le_refl _)) ((((unhide t3).grow ((Below.refl _ _).alloc (Nat.le_refl _) _))).mono (Nat.zero_le _) (Nat.le_refl _))) (by simp)).mono ?_; rintro e w5 ⟨A5, c5, rfl, o5, hb5⟩)
    | fail)
  go_ret2
  have hz := (unhide hb4).size
  exact ⟨_, _, rfl, ownsRow_mono o5 (by simp; omega), bl_call (bl_alloc (unhide hb4) _) hb5⟩
end Go.Proofs.YthkccpemgmpadaaGreatDoor.P

namespace Go.Proofs.YthkccpemgmpadaaGreatDoor.P
set_option maxRecDepth 100000
open Go.RowKit
structure Rd1 (base g gc cc gt ct : Nat) (w : World) (r : Rdr) (t : List Int) : Prop where
  rd : Rdg base g gc cc gt ct w r t
  ok : OkR r
  used : r.used ≤ t.length
theorem nextR_next (t : List Int) (r : Rdr) (i : Int) (h : (nextR t r i).2.2 = 0) (c : Int) (k m : Nat) (hi : i = c + m) : treeR t c (k + 1) m r = treeR t c k (2 * m + (if (nextR t r i).1 then 1 else 0)) (nextR t r i).2.1 := by
  subst hi
  rw [treeR, if_pos h]
theorem nextR_stop (t : List Int) (r : Rdr) (i : Int) (h : (nextR t r i).2.2 ≠ 0) (c : Int) (k m : Nat) (hi : i = c + m) : treeR t c (k + 1) m r = none := by
  subst hi
  rw [treeR, if_neg h]
set_option maxHeartbeats 2000000 in
theorem readNum_any (base g gc cc gt ct k : Nat) (c : Int) (r : Rdr) (t : List Int) (w : World) (hW : Rd1 base g gc cc gt ct w r t) (ht : okB t) (hl : t.length ≤ 1000000) (hk : k ≤ 8) (hc : 0 ≤ c ∧ c ≤ 528) :
    Calls Tryz.prog 130 #[.pointer (some ⟨g, 0, none⟩), .int .i64 k, .int .i64 c] w fun e w' =>
      ((∃ m r', treeR t c k 1 r = some (m, r') ∧ e = .returned (.tuple #[.int .i64 ((m : Int) - 2 ^ k), .int .i64 0]) ∧ Rd1 base g gc cc gt ct w' r' t) ∨
       (treeR t c k 1 r = none ∧ ∃ er : Int, er ≠ 0 ∧ e = .returned (.tuple #[.int .i64 0, .int .i64 er]))) ∧ But [g, gc] w w' := by
  have hN := fun (i : Int) (r : Rdr) (W : World) (h : Rd1 base g gc cc gt ct W r t) => Next_any base g gc cc gt ct i r t W h.rd h.ok ht hl h.used
  replace hN := hide hN
  replace hW := hide hW
  have hk2 : (1 : Int) * 2 ^ k ≤ 256 := by
    have : 2 ^ k ≤ 2 ^ 8 := Nat.pow_le_pow_right (by omega) hk
    have h2 : ((2 ^ k : Nat) : Int) ≤ 256 := by omega
    simpa using h2
  go_enter Tryz.func130, Tryz.ntmps130
  go_wp2_with fail
  go_loopw [8, 12] (fun s8 i wr => ∃ (j m : Nat) (r1 : Rdr), j ≤ k ∧ s8 = .int .i64 m ∧ i = .int .i64 j ∧ Hid (m < 2 ^ (j + 1)) ∧ 1 ≤ m ∧ m < 1024 ∧ Hid (treeR t c k 1 r = treeR t c (k - j) m r1) ∧ Hid (Rd1 base g gc cc gt ct wr r1 t) ∧ Hid (But [g, gc] w wr)) (fun _ i _ => 8 - (intOf i).toNat)
  case atStart => exact ⟨0, 1, r, by omega, rfl, rfl, hide (by decide), by omega, by omega, hide rfl, hW, hide (But.refl _ _)⟩
  case round =>
    obtain ⟨j, m, r1, hj, rfl, rfl, hm, hm1, hm2, hq, hR, hB⟩ := hrel
    by_cases hlt : j < k
    · have hN1 := unhide hN (c + m) r1 wr (unhide hR)
      have ha := fun h => nextR_next t r1 (c + m) h c (k - (j + 1)) m rfl
      have hb := fun h => nextR_stop t r1 (c + m) h c (k - (j + 1)) m rfl
      rw [show k - (j + 1) + 1 = k - j by omega] at ha hb
      have ho := nextR_ok (i := c + m) ht (unhide hR).ok
      have hu := nextR_used (i := c + m) (unhide hR).used
      generalize nextR t r1 (c + m) = X at *
      obtain ⟨b, r2, er⟩ := X
      simp only [] at hN1 ha hb ho hu
      replace hN1 := hide hN1
      replace ho := hide ho; replace hu := hide hu
      by_cases h0 : er = 0
      · subst h0
        replace ha := hide (ha rfl)
        clear hb
        cases b with
        | true =>
          have hor : bits .or .i64 ((m : Int) * 2) 1 = (m : Int) * 2 + 1 := i64_join 1 (by omega) _ _ (by omega) (by omega) (by omega) (by omega) (by omega)
          have hm3 : 2 * m + 1 < 2 ^ (j + 1 + 1) := by rw [Nat.pow_succ]; have := unhide hm; omega
          have hm4 : 2 * m + 1 < 1024 := by
            have : 2 ^ (j + 1 + 1) ≤ 2 ^ 9 := Nat.pow_le_pow_right (by omega) (by omega)
            omega
          replace hm3 := hide hm3
          go_wp2_with (first
            | (go_at_call 128; refine (unhide hN1).mono ?_; rintro e w1 ⟨rfl, hr, hbt⟩)
            | fail)
          go_roundw
          case rel => exact ⟨j + 1, 2 * m + 1, r2, by omega, by go_num, by go_num, hm3, by omega, hm4, hide (by rw [unhide hq, unhide ha]; rfl), hide ⟨hr, unhide ho, unhide hu⟩, hide ((unhide hB).trans hbt)⟩
          case measure => simp [intOf]; omega
        | false =>
          have hm3 : 2 * m + 0 < 2 ^ (j + 1 + 1) := by rw [Nat.pow_succ]; have := unhide hm; omega
          have hm4 : 2 * m + 0 < 1024 := by
            have : 2 ^ (j + 1 + 1) ≤ 2 ^ 9 := Nat.pow_le_pow_right (by omega) (by omega)
            omega
          replace hm3 := hide hm3
          go_wp2_with (first
            | (go_at_call 128; refine (unhide hN1).mono ?_; rintro e w1 ⟨rfl, hr, hbt⟩)
            | fail)
          go_roundw
          case rel => exact ⟨j + 1, 2 * m + 0, r2, by omega, by go_num, by go_num, hm3, by omega, hm4, hide (by rw [unhide hq, unhide ha]; rfl), hide ⟨hr, unhide ho, unhide hu⟩, hide ((unhide hB).trans hbt)⟩
          case measure => simp [intOf]; omega
      · replace hb := hide (hb h0)
        clear ha
        have h0' : (er == 0) = false := by simpa using h0
        go_wp2_with (first
          | (go_at_call 128; refine (unhide hN1).mono ?_; rintro e w1 ⟨rfl, hr, hbt⟩)
          | fail)
        go_ret2
        exact ⟨.inr ⟨by rw [unhide hq]; exact unhide hb, er, h0, rfl⟩, (unhide hB).trans hbt⟩
    · obtain rfl : j = k := by omega
      have hq2 : treeR t c j 1 r = some (m, r1) := by rw [unhide hq, Nat.sub_self]; rfl
      replace hq2 := hide hq2
      have hj8 : (j : Int) ≤ 8 := by omega
      clear hq hlt hm
      go_wp2_with fail
      have p0 : (0 : Int) ≤ 2 ^ j := Int.pow_nonneg (by omega)
      have p1 : wrap64 ((2 : Int) ^ j) = 2 ^ j := IntWalk.wrap64_in _ (by omega)
      have p2 : wrap64 ((m : Int) - 2 ^ j) = (m : Int) - 2 ^ j := IntWalk.wrap64_in _ (by omega)
      go_ret2
      exact ⟨.inl ⟨m, r1, unhide hq2, ret_ii rfl rfl (by rw [p1, p2]) rfl, unhide hR⟩, unhide hB⟩
theorem readNum_some (base g gc cc gt ct k : Nat) (c : Int) (r : Rdr) (t : List Int) (m : Nat) (r' : Rdr) (h : treeR t c k 1 r = some (m, r')) (w : World) (hW : Rd1 base g gc cc gt ct w r t) (ht : okB t) (hl : t.length ≤ 1000000) (hk : k ≤ 8) (hc : 0 ≤ c ∧ c ≤ 528) :
    Calls Tryz.prog 130 #[.pointer (some ⟨g, 0, none⟩), .int .i64 k, .int .i64 c] w fun e w' => e = .returned (.tuple #[.int .i64 ((m : Int) - 2 ^ k), .int .i64 0]) ∧ Rd1 base g gc cc gt ct w' r' t ∧ But [g, gc] w w' :=
  (readNum_any base g gc cc gt ct k c r t w hW ht hl hk hc).mono fun e w' ⟨ho, hb⟩ => by
    rcases ho with ⟨m', r2, h1, h2, h3⟩ | ⟨h1, _⟩
    · rw [h] at h1
      injection h1 with h1
      injection h1 with e1 e2
      subst e1 e2
      exact ⟨h2, h3, hb⟩
    · rw [h] at h1; cases h1
theorem readNum_none (base g gc cc gt ct k : Nat) (c : Int) (r : Rdr) (t : List Int) (h : treeR t c k 1 r = none) (w : World) (hW : Rd1 base g gc cc gt ct w r t) (ht : okB t) (hl : t.length ≤ 1000000) (hk : k ≤ 8) (hc : 0 ≤ c ∧ c ≤ 528) :
    Calls Tryz.prog 130 #[.pointer (some ⟨g, 0, none⟩), .int .i64 k, .int .i64 c] w fun e w' => ∃ er : Int, (er == 0) = false ∧ e = .returned (.tuple #[.int .i64 0, .int .i64 er]) ∧ But [g, gc] w w' :=
  (readNum_any base g gc cc gt ct k c r t w hW ht hl hk hc).mono fun e w' ⟨ho, hb⟩ => by
    rcases ho with ⟨m', r2, h1, h2, h3⟩ | ⟨_, er, h1, h2⟩
    · rw [h] at h1; cases h1
    · exact ⟨er, by simpa using h1, h2, hb⟩
end Go.Proofs.YthkccpemgmpadaaGreatDoor.P

namespace Go.Proofs.YthkccpemgmpadaaGreatDoor.P
set_option maxRecDepth 100000
open Go.RowKit
section
variable {base g gc cc gt ct : Nat} {w w' : World} {r : Rdr} {t : List Int}
theorem Rd1.alloc (h : Rd1 base g gc cc gt ct w r t) (o : Obj) : Rd1 base g gc cc gt ct (w.alloc o) r t := ⟨h.rd.alloc o, h.ok, h.used⟩
theorem Rd1.below (h : Rd1 base g gc cc gt ct w r t) (hb : Below w.heap.size w w') : Rd1 base g gc cc gt ct w' r t := ⟨h.rd.below hb, h.ok, h.used⟩
end
theorem Rdg.lt {base g gc cc gt ct : Nat} {w : World} {r : Rdr} {t : List Int} (h : Rdg base g gc cc gt ct w r t) (hc : 0 < r.c.length) : g < w.heap.size ∧ gc < w.heap.size := by
  refine ⟨h.blk.lt, ?_⟩
  obtain ⟨g', cur, e, _, hb⟩ := own_pos h.c hc
  injection e with e; injection e with e
  subst e
  exact hb.lt
theorem ret_tk {fn : Func} {p u : Tmp} {R : Ending → World → Prop} {a : Act} {w : World} (h : fn.results = #[.cell p 79, .tmp u]) (g : Nat) (x y z v : Value)
    (hp : a.tmps.getD p undef = .pointer (some ⟨g, 0, none⟩)) (hu : a.tmps.getD u undef = v) (hg : Blk w g 79 #[x, y, z]) (hd : a.defers = []) (hR : R (.returned (.tuple #[.agg #[x, y, z], v])) w) : bodyPost Tryz.prog fn R .ret a w := M.ret_tk h g x y z v hp hu hg hd hR
theorem but_new {w w' : World} {g gc gb : Nat} {o : Obj} {cs : Array Value} (hb : But [g, gc] (w.alloc o) w') (h1 : g < w.heap.size) (h2 : gc < w.heap.size) (hgb : gb = w.heap.size) (hB : Blk (w.alloc o) gb 79 cs) : Blk w' gb 79 cs ∧ But [g, gc] w w' :=
  ⟨hB.but hb (by simp; omega), ((But.refl _ _).alloc o).trans hb⟩
theorem But.far {S : List Nat} {a b : World} (h : But S a b) {p : Addr} (hp : a.heap.size ≤ p.block) (u : Value) : But S a (b.setCell p u) :=
  ⟨h.os, h.tape, h.output, by simpa [World.setCell] using h.size, fun k hk hS => (Below.heap_setCell _ _ _ _ (by omega)).trans (h.block k hk hS)⟩
theorem But.set3 {S : List Nat} {a b : World} (h : But S a b) {gb : Nat} (hp : a.heap.size ≤ gb) (x y z : Value) : But S a (((b.setCell ⟨gb, 0, none⟩ x).setCell ⟨gb, 1, none⟩ y).setCell ⟨gb, 2, none⟩ z) := ((h.far hp x).far hp y).far hp z
theorem Rdg.set1 {base g gc cc gt ct : Nat} {w : World} {r : Rdr} {t : List Int} {gb : Nat} {cs : Array Value} (h : Rdg base g gc cc gt ct w r t) (hB : Blk w gb 79 cs) (i : Nat) (u : Value) : Rdg base g gc cc gt ct (w.setCell ⟨gb, i, none⟩ u) r t :=
  ⟨h.blk.far (h.blk.ne_ hB (by decide)) u, own_far h.c hB (by decide) i u, own_far h.text hB (by decide) i u⟩
theorem Rd1.set3 {base g gc cc gt ct : Nat} {w : World} {r : Rdr} {t : List Int} {gb : Nat} {a b c : Value} (h : Rd1 base g gc cc gt ct w r t) (hB : Blk w gb 79 #[a, b, c]) (x y z : Value) : Rd1 base g gc cc gt ct (((w.setCell ⟨gb, 0, none⟩ x).setCell ⟨gb, 1, none⟩ y).setCell ⟨gb, 2, none⟩ z) r t :=
  ⟨((h.rd.set1 hB 0 x).set1 (hB.set 0 x) 1 y).set1 ((hB.set 0 x).set 1 y) 2 z, h.ok, h.used⟩
section
variable (base g gc cc gt ct : Nat) (r : Rdr) (t : List Int) (w : World) (hW : Rd1 base g gc cc gt ct w r t) (ht : okB t) (hl : t.length ≤ 1000000) (hcl : 0 < r.c.length)
set_option maxHeartbeats 1000000 in
include hW ht hl hcl in
theorem readAgain_none1 (h : treeR t 256 4 1 r = none) :
    Calls Tryz.prog 129 #[.pointer (some ⟨g, 0, none⟩)] w fun e w' => ∃ er : Int, (er == 0) = false ∧ e = .returned (.tuple #[tkV ⟨0, 0, 0⟩, .int .i64 er]) ∧ But [g, gc] w w' := by
  have hN1 := fun (W : World) (k : Rd1 base g gc cc gt ct W r t) => readNum_none base g gc cc gt ct 4 256 r t h W k ht hl (by omega) (by omega)
  obtain ⟨hg1, hg2⟩ := hW.rd.lt hcl
  replace hN1 := hide hN1; replace hW := hide hW; replace hg1 := hide hg1; replace hg2 := hide hg2
  clear hcl h
  go_enter Tryz.func129, Tryz.ntmps129
  go_wp2_with (first
    | (go_at_call 130; refine (unhide hN1 _ ((unhide hW).alloc _)).mono ?_; rintro e w1 ⟨er, he, rfl, hb1⟩
       obtain ⟨K1, B1⟩ := but_new hb1 (unhide hg1) (unhide hg2) rfl (Blk.new (cs := #[.int .u8 0, .int .i64 0, .int .i64 0]) rfl)
       have y0 := K1.lt
       have q0 := K1.cell 0; have q1 := K1.cell 1; have q2 := K1.cell 2
       have f0 := K1.frozen 0; have f1 := K1.frozen 1; have f2 := K1.frozen 2
       simp at q0 q1 q2
       clear hb1)
    | fail)
  exact ret_tk rfl w.heap.size (.int .u8 0) (.int .i64 0) (.int .i64 0) (.int .i64 er) rfl rfl K1.set3 rfl ⟨er, he, rfl, B1.set3 (Nat.le_refl _) _ _ _⟩
set_option maxHeartbeats 1000000 in
include hW ht hl hcl in
theorem readAgain_two (m : Nat) (r1 : Rdr) (h : treeR t 256 4 1 r = some (m, r1)) :
    Calls Tryz.prog 129 #[.pointer (some ⟨g, 0, none⟩)] w fun e w' =>
      ((∃ q r', treeR t 272 8 1 r1 = some (q, r') ∧ e = .returned (.tuple #[tkV ⟨0, (m : Int) - 16 + 3, (q : Int) - 256 + 1⟩, .int .i64 0]) ∧ Rd1 base g gc cc gt ct w' r' t) ∨ (treeR t 272 8 1 r1 = none ∧ ∃ er : Int, (er == 0) = false ∧ e = .returned (.tuple #[tkV ⟨0, 0, 0⟩, .int .i64 er]))) ∧ But [g, gc] w w' := by
  have hN1 := fun (W : World) (k : Rd1 base g gc cc gt ct W r t) => readNum_some base g gc cc gt ct 4 256 r t m r1 h W k ht hl (by omega) (by omega)
  have hge := treeR_ge 4 1 h
  simp at hge
  obtain ⟨hg1, hg2⟩ := hW.rd.lt hcl
  have hb4 : (m : Int) - 2 ^ 4 = (m : Int) - 16 := by omega
  rw [show ((4 : Nat) : Int) = 4 from rfl, hb4] at hN1
  cases h2 : treeR t 272 8 1 r1 with
  | none =>
    have hN2 := fun (W : World) (k : Rd1 base g gc cc gt ct W r1 t) => readNum_none base g gc cc gt ct 8 272 r1 t h2 W k ht hl (by omega) (by omega)
    replace hN1 := hide hN1; replace hN2 := hide hN2; replace hW := hide hW; replace hg1 := hide hg1; replace hg2 := hide hg2
    clear hcl h h2
    have tk0 : True := trivial
    go_enter Tryz.func129, Tryz.ntmps129
    go_wp2_with (first
      | (have _t := tk0; go_at_call 130; clear tk0 _t; refine (unhide hN1 _ ((unhide hW).alloc _)).mono ?_; rintro e w1 ⟨rfl, R1, hb1⟩
         obtain ⟨K1, B1⟩ := but_new hb1 (unhide hg1) (unhide hg2) rfl (Blk.new (cs := #[.int .u8 0, .int .i64 0, .int .i64 0]) rfl)
         replace R1 := hide R1; replace K1 := hide K1; replace B1 := hide B1
         clear hb1)
      | (go_at_call 130; refine (unhide hN2 _ (unhide R1)).mono ?_; rintro e w2 ⟨er, he, rfl, hb2⟩
         have K2 := (unhide K1).but hb2 (by have := unhide hg1; have := unhide hg2; simp; omega)
         have B2 := (unhide B1).trans hb2
         have y0 := K2.lt
         have q0 := K2.cell 0; have q1 := K2.cell 1; have q2 := K2.cell 2
         have f0 := K2.frozen 0; have f1 := K2.frozen 1; have f2 := K2.frozen 2
         simp at q0 q1 q2
         clear hb2)
      | fail)
    exact ret_tk rfl w.heap.size (.int .u8 0) (.int .i64 0) (.int .i64 0) (.int .i64 er) rfl rfl K2.set3 rfl ⟨.inr ⟨by simp, er, he, rfl⟩, B2.set3 (Nat.le_refl _) _ _ _⟩
  | some x =>
    obtain ⟨q, r2⟩ := x
    have hN2 := fun (W : World) (k : Rd1 base g gc cc gt ct W r1 t) => readNum_some base g gc cc gt ct 8 272 r1 t q r2 h2 W k ht hl (by omega) (by omega)
    have hge2 := treeR_ge 8 1 h2
    simp at hge2
    have hb8 : (q : Int) - 2 ^ 8 = (q : Int) - 256 := by omega
    rw [show ((8 : Nat) : Int) = 8 from rfl, hb8] at hN2
    replace hN1 := hide hN1; replace hN2 := hide hN2; replace hW := hide hW; replace hg1 := hide hg1; replace hg2 := hide hg2
    clear hcl h h2 hb4 hb8
    have tk0 : True := trivial
    go_enter Tryz.func129, Tryz.ntmps129
    go_wp2_with (first
      | (have _t := tk0; go_at_call 130; clear tk0 _t; refine (unhide hN1 _ ((unhide hW).alloc _)).mono ?_; rintro e w1 ⟨rfl, R1, hb1⟩
         obtain ⟨K1, B1⟩ := but_new hb1 (unhide hg1) (unhide hg2) rfl (Blk.new (cs := #[.int .u8 0, .int .i64 0, .int .i64 0]) rfl)
         replace R1 := hide R1; replace K1 := hide K1; replace B1 := hide B1
         clear hb1)
      | (go_at_call 130; refine (unhide hN2 _ (unhide R1)).mono ?_; rintro e w2 ⟨rfl, R2, hb2⟩
         have K2 := (unhide K1).but hb2 (by have := unhide hg1; have := unhide hg2; simp; omega)
         have B2 := (unhide B1).trans hb2
         have y0 := K2.lt
         have q0 := K2.cell 0; have q1 := K2.cell 1; have q2 := K2.cell 2
         have f0 := K2.frozen 0; have f1 := K2.frozen 1; have f2 := K2.frozen 2
         simp at q0 q1 q2
         clear hb2)
      | fail)
    exact ret_tk rfl w.heap.size (.int .u8 0) (.int .i64 ((m : Int) - 16 + 3)) (.int .i64 ((q : Int) - 256 + 1)) (.int .i64 0) rfl rfl K2.set3 rfl ⟨.inl ⟨q, r2, rfl, rfl, R2.set3 K2 _ _ _⟩, B2.set3 (Nat.le_refl _) _ _ _⟩
end
end Go.Proofs.YthkccpemgmpadaaGreatDoor.P
