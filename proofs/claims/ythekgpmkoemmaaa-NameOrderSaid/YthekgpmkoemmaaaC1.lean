import Derived.RangeFuncNested
import Derived.RangeFuncBound
import Derived.RangeFuncCalls
import Derived.RangeFuncLeaves
import Derived.Shelf.Abstract
import Derived.Shelf.RegionOpen
import Derived.WalkKit
import Derived.OwnWalkIn
import Derived.TacticsInMore
import Derived.LoopNIn
import Derived.LoopIn
import Derived.Test.YthekgpmkoemmaaaC0
namespace Go.Proofs.Ythekgpmkoemmaaa
open Go.RowKit Go.Shelf
attribute [local go_sem] Oper.semAt_some bz_size bz_toList

set_option maxHeartbeats 400000 in
/-- parts(s): the text is boxed; the function value captures the box. -/
theorem parts_maker (l : List UInt8) (w : World) : Calls Try.prog 23 #[.string (bz l)] w fun e w' => e = .returned (.func (.func 37) #[] #[.pointer (some ⟨w.heap.size, 0, none⟩)]) ∧ w' = w.alloc (.cells #[.string (bz l)] 9) := by
  go_enter Try.func23, Try.ntmps23
  go_wp2
  go_ret
  exact ⟨rfl, rfl⟩

theorem abides_drewN {β : Type} {B : Nat} {J : β → World → Prop} (h : AbidesFrom B J) {s : β} {W : World} (hs : J s W) (n : Nat) : J s (W.drewN n) :=
  h s W _ none hs ⟨rfl, rfl, rfl, Nat.le_refl _, fun _ _ _ => rfl⟩ (fun r e => by cases e)
theorem pre_snoc {pre : List (List UInt8)} {x : List UInt8} {r xs : List (List UInt8)} (h : xs = pre ++ x :: r) : xs = (pre ++ [x]) ++ r := by simp [h]

/-- How much is left. -/
def leftV : Value → Value → Nat
  | .string s, .bool true => s.size + 1
  | _, _ => 0
theorem leftV_t (l : List UInt8) : leftV (.string (bz l)) (.bool true) = l.length + 1 := rfl
theorem leftV_f (l : List UInt8) : leftV (.string (bz l)) (.bool false) = 0 := rfl
theorem tl_lt {l : List UInt8} (h : hasS l = true) : (tl l).length < l.length := by
  have := congrArg List.length (cut_has l h)
  simp at this
  omega

set_option maxRecDepth 100000 in
set_option maxHeartbeats 400000 in
theorem parts_iter (t : List UInt8) (ht : t.length ≤ 1000) (n : Nat) (hn : 1 ≤ n) (l Bn : Nat) (J Jx : List (List UInt8) → World → Prop) (B : Nat) (hJ : AbidesFrom B J)
    (hY : ∀ pre x W, J pre W → pre.length < (parts t).length → YieldAt Fence.wide (n - 1) Try.prog l #[.string (bz x)] W fun e W' =>
      (e = .returned (.bool true) ∧ J (pre ++ [x]) W' ∧ True) ∨ (e = .returned (.bool false) ∧ Jx (pre ++ [x]) W'))
    (W : World) (hBn : W.cell? ⟨Bn, 0, none⟩ = some (.string (bz t))) (h0 : J [] W) :
    CallsIn Fence.wide n Try.prog 37 #[.func (.yield l) #[] #[], .pointer (some ⟨Bn, 0, none⟩)] W fun e W' => (∃ v, e = .returned v) ∧
      ((∃ ys, ys = parts t ∧ J ys W') ∨ (∃ pre, pre <+: parts t ∧ Jx pre W')) := by
  refine callsIn_of_wp Try.func37 rfl trivial ?_ rfl
  simp only [Try.ntmps37, List.size_toArray, List.length_cons, List.length_nil, Nat.reduceAdd, Nat.reduceSub, Array.replicate_succ, Array.replicate_zero, List.push_toArray, List.append_toArray, List.nil_append, List.cons_append]
  gi_wp2
  gi_loopw [3, 4] (fun r m wr => ∃ (pre : List (List UInt8)) (s : List UInt8) (b : Bool), r = .string (bz s) ∧ m = .bool b ∧ s.length ≤ t.length ∧ parts t = pre ++ (if b then parts s else []) ∧ J pre wr)
    (fun r m _ => leftV r m)
  case atStart =>
    exact ⟨[], t, true, rfl, rfl, Nat.le_refl _, rfl, h0⟩
  case round =>
    obtain ⟨pre, s, b, rfl, rfl, hs, hx, hJs⟩ := hrel
    cases b with
    | false =>
      gi_wp2
      go_end0
      exact ⟨⟨_, rfl⟩, .inl ⟨pre, by simpa using hx.symm, hJs⟩⟩
    | true =>
      have hx0 : parts t = pre ++ parts s := by simpa using hx
      clear hx
      have HC := fun W => cut_any s (by omega) W
      replace HC := hide HC
      cases hh : hasS s with
      | false =>
        have hp : parts t = pre ++ [hd s] := by rw [hx0, parts_not s hh]
        have hlen : pre.length < (parts t).length := by rw [hp]; simp
        obtain ⟨tt, htt⟩ : ∃ tt, tt = hd s := ⟨_, rfl⟩
        obtain ⟨uu, huu⟩ : ∃ uu, uu = tl s := ⟨_, rfl⟩
        have hul : uu.length ≤ t.length := by rw [huu, (cut_not s hh).2]; simp
        rw [hh, ← htt, ← huu] at HC
        rw [← htt] at hp
        clear htt huu hh
        replace hp := hide hp
        replace hx0 := hide hx0
        gi_wp2_with (refine ⟨trivial, ?_⟩; gi_at_call 34; refine (callsIn_wide.2 (unhide HC _)).mono ?_; rintro e w' ⟨rfl, nn, rfl⟩; (obtain ⟨fn, tmps, assign, body, hy, hR⟩ := hY pre tt (wr.drewN nn) (abides_drewN hJ hJs nn) hlen))
        gi_wp2
        refine hR.mono ?_
        rintro e W3 (⟨rfl, hJ3, _⟩ | ⟨rfl, hJx3⟩)
        · gi_wp2
          go_roundw
          case rel => exact ⟨pre ++ [tt], uu, false, rfl, rfl, hul, by simpa using unhide hp, hJ3⟩
          case measure => exact Nat.succ_pos _
        · gi_wp2
          refine bodyPost_ret (results_none rfl _ _ _) rfl ?_
          exact ⟨⟨_, rfl⟩, .inr ⟨pre ++ [tt], ⟨[], by simpa using (unhide hp).symm⟩, hJx3⟩⟩
      | true =>
        have hp := pre_snoc (hx0.trans (by rw [parts_has s hh]))
        have hlen : pre.length < (parts t).length := by rw [hp]; simp
        have htl := tl_lt hh
        obtain ⟨tt, htt⟩ : ∃ tt, tt = hd s := ⟨_, rfl⟩
        obtain ⟨uu, huu⟩ : ∃ uu, uu = tl s := ⟨_, rfl⟩
        rw [← huu] at htl
        rw [hh, ← htt, ← huu] at HC
        rw [← htt, ← huu] at hp
        clear htt huu hh
        replace hp := hide hp
        replace hx0 := hide hx0
        gi_wp2_with (refine ⟨trivial, ?_⟩; gi_at_call 34; refine (callsIn_wide.2 (unhide HC _)).mono ?_; rintro e w' ⟨rfl, nn, rfl⟩; (obtain ⟨fn, tmps, assign, body, hy, hR⟩ := hY pre tt (wr.drewN nn) (abides_drewN hJ hJs nn) hlen))
        gi_wp2
        refine hR.mono ?_
        rintro e W3 (⟨rfl, hJ3, _⟩ | ⟨rfl, hJx3⟩)
        · gi_wp2
          go_roundw
          case rel => exact ⟨pre ++ [tt], uu, true, rfl, rfl, by omega, by simpa using unhide hp, hJ3⟩
          case measure => show uu.length + 1 < s.length + 1; omega
        · gi_wp2
          refine bodyPost_ret (results_none rfl _ _ _) rfl ?_
          exact ⟨⟨_, rfl⟩, .inr ⟨pre ++ [tt], ⟨parts uu, by simpa using (unhide hp).symm⟩, hJx3⟩⟩
theorem parts_stops (t : List UInt8) (ht : t.length ≤ 1000) (n : Nat) (hn : 1 ≤ n) (Bn : Nat) (w : World) (hBn : Bn < w.heap.size) (hc : w.cell? ⟨Bn, 0, none⟩ = some (.string (bz t))) :
    SeqStopsK Fence.wide n Try.prog 37 #[.pointer (some ⟨Bn, 0, none⟩)] (fun x : List UInt8 => #[Value.string (bz x)]) (fun _ _ => True) (fun ys => ys = parts t) (fun pre => pre <+: parts t) (parts t).length w := fun l J Jx W hW hJ _ hY h0 =>
  parts_iter t ht n hn l Bn J Jx W.heap.size hJ hY W ((hW.cell (p := ⟨Bn, 0, none⟩) hBn).trans hc) h0
end Go.Proofs.Ythekgpmkoemmaaa
