import Derived.Test.YtfihgjdppkiolaaCI
import Derived.Test.YtfihgjdppkiolaaCJ
namespace Go.Proofs.Ytfihgjdppkiolaa
set_option maxRecDepth 100000
open Go.RowKit

theorem refNext_any (lo lo' : Nat) (i : Int) (v v' : Value) (r : Rdr) (t : List Int) (w : World) (hlo : lo ≤ w.heap.size) (hv : RgO lo w v r) (hv' : Os lo' w.heap.size w v' t) (h : OkR r) (ht : okB t) (hl : t.length ≤ 1000000) (hu : r.used ≤ t.length) :
    Calls Try.prog 58 #[v, v', .int .i64 i] w fun e w' => ∃ v', e = .returned (.tuple #[.bool (nextR t r i).1, v', .int .i64 (nextR t r i).2.2]) ∧ RgO lo w' v' (nextR t r i).2.1 ∧ Below w.heap.size w w' := by
  by_cases hi : 0 ≤ i ∧ i < r.c.length
  · obtain ⟨k, rfl⟩ : ∃ k : Nat, i = (k : Int) := ⟨i.toNat, by omega⟩
    have hcl := (okC_iff.1 h.c).1
    cases hb : bitR r k
    · exact refNext_false lo lo' k v v' r t w hlo hv hv' (by omega) h ht hl hu hcl hb
    · exact refNext_true lo lo' k v v' r t w hlo hv hv' (by omega) h ht hl hu hcl hb
  · have e : nextR t r i = (false, r, 4) := by unfold nextR; rw [if_pos hi]
    rw [e]
    exact (refNext_none lo v v' i r w hv hi)
end Go.Proofs.Ytfihgjdppkiolaa

namespace Go.Proofs.Ytfihgjdppkiolaa
set_option maxRecDepth 100000
open Go.RowKit

theorem set4_own {w : World} {base n g9 : Nat} {e : TypeId} {v : Value} {a b c d x y z u : Value} {xs : List Value} (o : w.ownsRow base e 1 v n xs) (k9 : Blk w g9 60 #[a, b, c, d]) (he : e ≠ 60) :
    ((((w.setCell ⟨g9, 0, none⟩ x).setCell ⟨g9, 1, none⟩ y).setCell ⟨g9, 2, none⟩ z).setCell ⟨g9, 3, none⟩ u).ownsRow base e 1 v n xs :=
  own_far (own_far (own_far (own_far o k9 he 0 x) (k9.set 0 x) he 1 y) ((k9.set 0 x).set 1 y) he 2 z) (((k9.set 0 x).set 1 y).set 2 z) he 3 u
theorem set4_blk {w : World} {g g9 : Nat} {e : TypeId} {x y z u : Value} {cs : Array Value} (k : Blk w g e cs) (h : g ≠ g9) :
    Blk ((((w.setCell ⟨g9, 0, none⟩ x).setCell ⟨g9, 1, none⟩ y).setCell ⟨g9, 2, none⟩ z).setCell ⟨g9, 3, none⟩ u) g e cs :=
  (((k.far (p := ⟨g9, 0, none⟩) h x).far (p := ⟨g9, 1, none⟩) h y).far (p := ⟨g9, 2, none⟩) h z).far (p := ⟨g9, 3, none⟩) h u
theorem set4_below {w w0 : World} {g9 B : Nat} {x y z u : Value} (b : Below B w0 w) (h : B ≤ g9) :
    Below B w0 ((((w.setCell ⟨g9, 0, none⟩ x).setCell ⟨g9, 1, none⟩ y).setCell ⟨g9, 2, none⟩ z).setCell ⟨g9, 3, none⟩ u) :=
  (((b.setCell (p := ⟨g9, 0, none⟩) h x).setCell (p := ⟨g9, 1, none⟩) h y).setCell (p := ⟨g9, 2, none⟩) h z).setCell (p := ⟨g9, 3, none⟩) h u

theorem dstep {w w5 : World} {base g n k : Nat} {v l : Value} {a b c d x y z u : Value} {xs ys : List Value} (y0 : Bool) (K5 : Blk w5 g 60 #[a, b, c, d]) (o5 : w5.ownsRow base 3 1 v n xs) (L5 : w5.ownsRow base 4 1 l k ys) (B5 : Below w.heap.size w w5) (hg : w.heap.size ≤ g) :
    Blk (((((((w5.alloc (.cells #[x, y, z, u] 60)).setCell ⟨g, 0, none⟩ x).setCell ⟨g, 1, none⟩ y).setCell ⟨g, 2, none⟩ z).setCell ⟨g, 3, none⟩ u)).alloc (.cells #[.bool y0] 4)) g 60 #[x, y, z, u] ∧
    (((((((w5.alloc (.cells #[x, y, z, u] 60)).setCell ⟨g, 0, none⟩ x).setCell ⟨g, 1, none⟩ y).setCell ⟨g, 2, none⟩ z).setCell ⟨g, 3, none⟩ u)).alloc (.cells #[.bool y0] 4)).ownsRow base 3 1 v n xs ∧
    (((((((w5.alloc (.cells #[x, y, z, u] 60)).setCell ⟨g, 0, none⟩ x).setCell ⟨g, 1, none⟩ y).setCell ⟨g, 2, none⟩ z).setCell ⟨g, 3, none⟩ u)).alloc (.cells #[.bool y0] 4)).ownsRow base 4 1 l k ys ∧
    Below w.heap.size w (((((((w5.alloc (.cells #[x, y, z, u] 60)).setCell ⟨g, 0, none⟩ x).setCell ⟨g, 1, none⟩ y).setCell ⟨g, 2, none⟩ z).setCell ⟨g, 3, none⟩ u)).alloc (.cells #[.bool y0] 4)) ∧
    SrcOk (((((((w5.alloc (.cells #[x, y, z, u] 60)).setCell ⟨g, 0, none⟩ x).setCell ⟨g, 1, none⟩ y).setCell ⟨g, 2, none⟩ z).setCell ⟨g, 3, none⟩ u)).alloc (.cells #[.bool y0] 4)) (some ⟨w5.heap.size + 1, 0, none⟩) 1 [.bool y0] := by
  have K6 := K5.alloc (.cells #[x, y, z, u] 60)
  have o6 := set4_own (x := x) (y := y) (z := z) (u := u) (o5.alloc (.cells #[x, y, z, u] 60)) K6 (by decide)
  have L6 := set4_own (x := x) (y := y) (z := z) (u := u) (L5.alloc (.cells #[x, y, z, u] 60)) K6 (by decide)
  have B6 := set4_below (x := x) (y := y) (z := z) (u := u) (B5.alloc B5.size (.cells #[x, y, z, u] 60)) hg
  refine ⟨(K6.set4 (x := x) (y := y) (z := z) (u := u)).alloc _, o6.alloc _, L6.alloc _, B6.alloc B6.size _, ?_⟩
  exact SrcOk.blk (t := 4) (cur := [.bool y0]) (Blk.new (by simp)) fun j u hu => by simpa using hu

end Go.Proofs.Ytfihgjdppkiolaa

namespace Go.Proofs.Ytfihgjdppkiolaa
set_option maxRecDepth 100000
open Go.RowKit

set_option maxHeartbeats 1000000 in
theorem refEncode_bad (n : Int) (hn : newN n = false) (v : Value) (w : World) :
    Calls Try.prog 29 #[.int .i64 n, v] w fun e w' => e = .returned (.tuple #[.slice none 0 0, .int .i64 1]) ∧ Below w.heap.size w w' := by
  have hN := fun W => refNew_bad n hn W
  replace hN := hide hN
  clear hn
  go_enter Try.func29, Try.ntmps29
  go_wp2_with (first
    | (go_at_call 50; refine (unhide hN _).mono ?_; rintro e w1 ⟨rfl, hb1⟩)
    | fail)
  go_ret2
  exact ⟨rfl, hb1⟩

set_option maxHeartbeats 1000000 in
theorem refEncode_none (n : Nat) (hn : n ≤ 1024) (lo : Nat) (v : Value) (bs : List Bit) (w : World) (h : Bts lo w.heap.size w v bs) (hl : bs.length ≤ 10000) (hin : bs.all (inB n) = false) :
    Calls Try.prog 29 #[.int .i64 n, v] w fun e w' => e = .returned (.tuple #[.slice none 0 0, .int .i64 4]) ∧ Below w.heap.size w w' := by
  have hN := fun W => refNew_own n hn W
  obtain ⟨A, c, rfl, x1, x2, x3⟩ := h.open
  have hL : ¬ (1048576 : Int) < (bs.length : Int) := by omega
  clear h
  replace hN := hide hN; replace hin := hide hin; replace x3 := hide x3
  go_enter Try.func29, Try.ntmps29
  go_wp2_with (first
    | (go_at_call 50; refine (unhide hN _).mono ?_; rintro e w1 ⟨A1, c1, rfl, ho, hb1⟩; clear ho; replace hb1 := hide hb1)
    | fail)
  clear hL
  go_loopw [30] (fun i wr => ∃ (k : Nat), k ≤ bs.length ∧ i = .int .i64 k ∧ Hid ((bs.take k).all (inB n) = true) ∧ Hid (Below w.heap.size w wr)) (fun i _ => bs.length - (intOf i).toNat)
  case atStart => exact ⟨0, Nat.zero_le _, rfl, hide (by simp), hb1⟩
  case round =>
    obtain ⟨k, hk, rfl, ha, hB⟩ := hrel
    by_cases hlt : k < bs.length
    · obtain ⟨b, off, rfl, g1, g2, q0, q1⟩ := unhide x3 k hlt
      have c0 := ((unhide hB).cell (p := ⟨b, off + k * 2, none⟩) g2).trans q0
      have c1 := ((unhide hB).cell (p := ⟨b, off + k * 2 + 1, none⟩) g2).trans q1
      have hs : (bs.take (k + 1)).all (inB n) = ((bs.take k).all (inB n) && inB n bs[k]) := by
        rw [List.take_succ_eq_append_getElem hlt, List.all_append]; simp
      rw [unhide ha, Bool.true_and] at hs
      generalize bs[k] = x at *
      obtain ⟨xa, xb⟩ := x
      simp only [] at c0 c1
      have hBA := (unhide hB).alloc (unhide hB).size (.cells #[.int .i64 xa, .bool xb] 42)
      have i1 : IntKind.i64.wrap ((k : Int) + 1) = (k : Int) + 1 := IntWalk.i64_in _ (by omega)
      have hk0 : (0 : Int) ≤ (k : Int) := by omega
      have hk1 : (k : Int) < (bs.length : Int) := by omega
      by_cases d0 : xa < 0
      · have e0 : decide (xa < 0) = true := by simpa using d0
        clear hs q0 q1 d0
        replace hBA := hide hBA
        go_wp2_with fail
        go_ret2
        exact ⟨rfl, unhide hBA⟩
      · have e0 : decide (xa < 0) = false := by simpa using d0
        by_cases d1 : (n : Int) ≤ xa
        · have e1 : decide ((n : Int) ≤ xa) = true := by simpa using d1
          clear hs q0 q1 d0 d1
          replace hBA := hide hBA
          go_wp2_with fail
          go_ret2
          exact ⟨rfl, unhide hBA⟩
        · have e1 : decide ((n : Int) ≤ xa) = false := by simpa using d1
          have hs' : inB n ⟨xa, xb⟩ = true := inB_iff.2 ⟨by simpa using d0, by simp; omega⟩
          rw [hs'] at hs
          clear hs' q0 q1 d0 d1
          replace hBA := hide hBA; replace hs := hide hs
          go_wp2_with fail
          clear i1
          go_roundw
          case rel => exact ⟨k + 1, by omega, by go_num, hs, hBA⟩
          case measure => simp [intOf]; omega
    · obtain rfl : k = bs.length := by omega
      have := unhide ha
      rw [List.take_length, unhide hin] at this
      cases this
end Go.Proofs.Ytfihgjdppkiolaa
