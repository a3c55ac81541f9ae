import Derived.Test.YtfihgjdppkiolaaP5
import Derived.Test.YtfihgjdppkiolaaME
import Derived.Test.YtfihgjdppkiolaaE4
namespace Go.Proofs.Ytfihgjdppkiolaa
set_option maxRecDepth 100000
open Go.RowKit

theorem toksB_okB {b : List UInt8} (hb : b.length ≤ 65536) : M.okB (toksB b) = true := M.okB_iff.2 ⟨Nat.le_trans (toksB_len b) hb, (toksB_text b).2⟩
theorem toksB_bitsLen (b : List UInt8) : (bitsF (toksB b)).length ≤ 9 * b.length := by
  have h1 := bitsF_len (toksB_text b).2
  rw [toksB_sum] at h1
  omega
theorem lists2 {w : World} {g : Nat} {v1 v2 : Value} {l1 l2 : List Int} (hg : Blk w g 23 #[v1, v2]) (h1 : Os 0 w.heap.size w v1 l1) (h2 : Os 0 w.heap.size w v2 l2) : Lists 0 w g [l1, l2] := by
  intro k hk
  have e0 : k = 0 ∨ k = 1 := by simp at hk; omega
  rcases e0 with rfl | rfl
  · obtain ⟨A, c, rfl, r⟩ := id h1
    exact ⟨A, c, hg.cell 0, h1⟩
  · obtain ⟨A, c, rfl, r⟩ := id h2
    exact ⟨A, c, hg.cell 1, h2⟩

set_option maxHeartbeats 2000000 in
theorem Pack_good (lo : Nat) (v : Value) (b : List UInt8) (w : World) (h : M.Bs lo w.heap.size w v b) (hl : b.length ≤ 1000) :
    Calls Try.prog 12 #[v] w fun e w' => ∃ A c, e = .returned (.tuple #[.slice A (packT b).length c, .int .i64 0]) ∧ w'.ownsRow w.heap.size 5 1 (.slice A (packT b).length c) (packT b).length ((packT b).flatMap byc) ∧ Below w.heap.size w w' := by
  have hT := M.Tokens_any lo v b w h (by omega)
  have hbl := toksB_bitsLen b
  have hB := fun (v : Value) (W : World) (lo : Nat) (k : M.Tks lo W.heap.size W v (toksB b)) => Bits_good lo v (toksB b) W k (toksB_okB (by omega))
  have hE := fun (v : Value) (W : World) (lo : Nat) (k : Bts lo W.heap.size W v (bitsF (toksB b))) => Encode_any 528 lo v (bitsF (toksB b)) W k (by omega)
  rw [toksB_bits (by omega)] at hE
  have hO := fun (W : World) => octets_any (b.length : Int) (by omega) (by omega) W
  have hpl := packT_len (b := b) (by omega)
  have hen := (short_len (toksB_bits (b := b) (by omega))).2
  have hP : packT b = le4 b.length ++ encT 528 (bitsF (toksB b)) := rfl
  obtain ⟨A, c, rfl, h1, h2, _⟩ := h.open
  clear h
  generalize packT b = T at *
  generalize encT 528 (bitsF (toksB b)) = E at *
  generalize bitsF (toksB b) = bits at *
  generalize toksB b = ts at *
  have hC := fun (g : Nat) (W : World) (k : Lists 0 W g [le4 b.length, E]) (hg : g < W.heap.size) => concat_any 0 g [le4 b.length, E] W k hg (by simp) (by simp [upto, le4]) (by
    have : (le4 (b.length : Int)).length = 4 := rfl
    simp [upto]; omega)
  have hu : upto [le4 (b.length : Int), E] [le4 (b.length : Int), E].length = T.length := by rw [hP]; simp [upto]
  have hc : cat [le4 (b.length : Int), E] [le4 (b.length : Int), E].length = T := by rw [hP]; simp [cat]
  rw [hu, hc] at hC
  replace hC : ∀ (g : Nat) (W : World) (k : Lists 0 W g [le4 (b.length : Int), E]) (hg : g < W.heap.size), Calls Try.prog 26 #[.slice (some ⟨g, 0, none⟩) 2 2] W fun e w' => ∃ A c, e = .returned (.slice A T.length c) ∧ w'.ownsRow W.heap.size 5 1 (.slice A T.length c) T.length (T.flatMap byc) ∧ Below W.heap.size W w' := hC
  replace hT := hide hT; replace hB := hide hB; replace hE := hide hE; replace hO := hide hO; replace hC := hide hC
  clear hu hc hP hpl hen hbl hl
  generalize le4 (b.length : Int) = L4 at *
  go_enter Try.func12, Try.ntmps12
  go_wp2_with (first
    | (go_at_call 24; refine (unhide hT).mono ?_; rintro e w1 ⟨A1, c1, rfl, o1, hb1⟩; replace hb1 := hide hb1; have t1 := hide (M.Tks.own o1); clear o1)
    | (go_at_call 10; refine (unhide hB _ _ _ (unhide t1)).mono ?_; rintro e w2 ⟨A2, c2, rfl, o2, hb2⟩; replace hb2 := hide (bl_call (unhide hb1) hb2); have t2 := hide (Rd.of_own btc_len (by omega) o2); clear o2)
    | (go_at_call 25; refine (unhide hE _ _ _ (unhide t2)).mono ?_; rintro e w3 ⟨A3, c3, rfl, o3, hb3⟩; replace hb3 := hide (bl_call (unhide hb2) hb3); replace o3 := hide o3)
    | (go_at_call 27; refine (unhide hO _).mono ?_; rintro e w4 ⟨g4, rfl, o4, hb4⟩
       have t3 := (Rd.of_own byc_len (by omega) (own_below (unhide o3) hb4 (Nat.le_refl _)))
       have t4 := (Rd.of_own byc_len (by omega) o4)
       replace hb4 := hide (bl_call (unhide hb3) hb4)
       replace t3 := hide t3; replace t4 := hide t4; clear o3 o4)
    | (go_at_call 26; refine (unhide hC _ _ (lists2 (Blk.new rfl) ((((unhide t4).grow ((Below.refl _ _).alloc (Nat.le_refl _) _))).mono (Nat.zero_le _) (Nat.le_refl _)) ((((unhide t3).grow ((Below.refl _ _).alloc (Nat.le_refl _) _))).mono (Nat.zero_le _) (Nat.le_refl _))) (by simp)).mono ?_; rintro e w5 ⟨A5, c5, rfl, o5, hb5⟩)
    | fail)
  go_ret2
  have hz := (unhide hb4).size
  exact ⟨_, _, rfl, ownsRow_mono o5 (by simp; omega), bl_call (bl_alloc (unhide hb4) _) hb5⟩

set_option maxHeartbeats 1000000 in
theorem Pack_long (lo : Nat) (v : Value) (b : List UInt8) (w : World) (h : M.Bs lo w.heap.size w v b) (hl : 65536 < b.length) :
    Calls Try.prog 12 #[v] w fun e w' => e = .returned (.tuple #[.slice none 0 0, .int .i64 3]) ∧ Below w.heap.size w w' := by
  have hT := M.Tokens_long v b lo w h hl
  replace hT := hide hT
  clear h
  go_enter Try.func12, Try.ntmps12
  go_wp2_with (first
    | (go_at_call 24; refine (unhide hT).mono ?_; rintro e w1 ⟨rfl, rfl⟩)
    | fail)
  go_ret2
  exact ⟨rfl, Below.refl _ _⟩

set_option maxHeartbeats 1000000 in
theorem live_any (w : World) : Calls Try.prog 9 #[] w fun e w' => e = .returned (.bool true) ∧ Below w.heap.size w w' := by
  have hP := Pack_good 0 (.slice none 0 0) [] w (M.Bs.nil _ _ _) (by simp)
  have e : (packT []).length = 9 := by decide +kernel
  rw [e] at hP
  replace hP := hide hP
  go_enter Try.func9, Try.ntmps9
  go_wp2_with (first
    | (go_at_call 12; refine (unhide hP).mono ?_; rintro e w1 ⟨A, c, rfl, _, hb1⟩)
    | fail)
  go_ret
  exact ⟨rfl, hb1⟩
end Go.Proofs.Ytfihgjdppkiolaa
