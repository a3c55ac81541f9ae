import Derived.Test.YthmhhgodjpgjnaaW26
namespace Go.Proofs.Ythmhhgodjpgjnaa
open Go.RowKit

theorem put_len (s : Enc) (x : Bit) : (put s x).text.length ≤ s.text.length + 1 := by
  have := put1_len s x
  unfold put
  split
  · simp [shf, this]
  · omega
theorem putAll_len (s : Enc) (xs : List Bit) : (putAll s xs).text.length ≤ s.text.length + xs.length := by
  induction xs generalizing s with
  | nil => exact Nat.le_refl _
  | cons x r ih =>
    have h1 := ih (put s x)
    have h2 := put_len s x
    show (putAll (put s x) r).text.length ≤ _
    rw [List.length_cons]
    omega
theorem putAll_snoc (s : Enc) {bs : List Bit} {k : Nat} (h : k < bs.length) : putAll s (bs.take (k + 1)) = put (putAll s (bs.take k)) bs[k] := by
  rw [List.take_succ_eq_append_getElem h]
  unfold putAll
  rw [List.foldl_append]
  rfl
section
variable {base g gc cc gt ct : Nat} {w w' : World} {c : List Int} {span low : Int} {text : List Int}
theorem Wrt.alloc (h : Wrt base g gc cc gt ct w c span low text) (o : Obj) : Wrt base g gc cc gt ct (w.alloc o) c span low text := ⟨h.blk.alloc o, h.c.alloc o, h.text.alloc o⟩
theorem Wrt.drew (h : Wrt base g gc cc gt ct w c span low text) : Wrt base g gc cc gt ct w.drew c span low text := ⟨h.blk.drew, own_drew h.c, own_drew h.text⟩
end
theorem own_lt {w : World} {base : Nat} {e : TypeId} {size n c g : Nat} {xs : List Value} (h : w.ownsRow base e size (.slice (some ⟨g, 0, none⟩) n c) n xs) : g < w.heap.size ∧ base ≤ g := by
  rcases h.2 with ⟨h, _⟩ | ⟨g', cap, cur, e', hb, hh, _⟩
  · cases h
  · injection e' with e'
    injection e' with e'
    injection e' with e'
    subst e'
    exact ⟨Blk.lt (t := e) (cs := cur) hh, hb⟩

set_option maxHeartbeats 2000000 in
theorem Encode_bad (n : Int) (hn : newN n = false) (v : Value) (w : World) :
    Calls Try.prog 10 #[.int .i64 n, v] w fun e w' => e = .returned (.tuple #[.slice none 0 0, .int .i64 1]) ∧ Below w.heap.size w w' := by
  have hS := fun W => start_bad n hn W
  replace hS := hide hS
  clear hn
  go_enter Try.func10, Try.ntmps10
  go_wp2_with (first
    | (go_at_call 22; refine (unhide hS _).mono ?_; rintro e w1 ⟨rfl, hb1⟩)
    | fail)
  go_ret2
  exact ⟨rfl, by (repeat (first | with_reducible exact Below.refl _ _ | with_reducible assumption | with_reducible refine Below.drew ?_ | with_reducible refine bl_alloc ?_ _ | with_reducible refine bl_call ?_ (by assumption) | (focus (with_reducible refine Below.setCell ?_ ?_ _; rotate_left; focus (first | omega | (simp <;> omega)))) | fail))⟩

set_option maxHeartbeats 2000000 in
theorem Encode_none (n : Nat) (hn : n ≤ 1024) (lo : Nat) (v : Value) (bs : List Bit) (w : World) (h : Bts lo w.heap.size w v bs) (hl : bs.length ≤ 1000) (hin : bs.all (inB n) = false) :
    Calls Try.prog 10 #[.int .i64 n, v] w fun e w' => e = .returned (.tuple #[.slice none 0 0, .int .i64 4]) ∧ Below w.heap.size w w' := by
  have hS := fun W => start_good n hn W
  have hf := fun g sv A c W (hb : Below w.heap.size w W) hg => contains23_any g sv A n c lo v bs W (h.grow hb) hg
  obtain ⟨A, c, rfl, x1, x2, x3⟩ := h.open
  clear h x3
  replace hS := hide hS; replace hf := hide hf; replace hin := hide hin
  go_enter Try.func10, Try.ntmps10
  go_wp2_with (first
    | (go_at_call 22; refine (unhide hS _).mono ?_; rintro e w1 ⟨g1, rfl, ho, hb1⟩; replace ho := hide ho)
    | (go_at_call 23; refine (unhide hf w1.heap.size (.int .u32 4294967295) (some ⟨g1, 0, none⟩) n _ (by (repeat (first | with_reducible exact Below.refl _ _ | with_reducible assumption | with_reducible refine Below.drew ?_ | with_reducible refine bl_alloc ?_ _ | with_reducible refine bl_call ?_ (by assumption) | (focus (with_reducible refine Below.setCell ?_ ?_ _; rotate_left; focus (first | omega | (simp <;> omega)))) | fail))) (Blk.new rfl)).mono ?_; rintro e w2 ⟨rfl, hb2⟩; rw [unhide hin])
    | fail)
  go_ret2
  exact ⟨rfl, by (repeat (first | with_reducible exact Below.refl _ _ | with_reducible assumption | with_reducible refine Below.drew ?_ | with_reducible refine bl_alloc ?_ _ | with_reducible refine bl_call ?_ (by assumption) | (focus (with_reducible refine Below.setCell ?_ ?_ _; rotate_left; focus (first | omega | (simp <;> omega)))) | fail))⟩
end Go.Proofs.Ythmhhgodjpgjnaa
