import Derived.Test.YtommlgdolahfbaaDoorProg
import Derived.Test.YtommlgdolahfbaaDoorBase
namespace Go.Proofs.YtommlgdolahfbaaDoor
set_option maxRecDepth 100000
open Go.RowKit


set_option maxHeartbeats 400000 in
theorem sectors_any (A : Option Addr) (n c : Nat) (wv lv : Value) (w : World) (hn : n ≤ 9223372036854775807) :
    Calls Tryd.prog 58 #[.agg #[.slice A n c, wv, lv]] w fun e w' => e = .returned (.int .i64 ((n / 32 : Nat) : Int)) ∧ Below w.heap.size w w' := by
  go_enter Tryd.func58, Tryd.ntmps58
  go_wp2
  go_ret
  exact ⟨rfl, (Below.refl _ _).alloc (Nat.le_refl _) _⟩

def hasB (n : Nat) (at_ : Int) : Bool := decide (0 ≤ at_ ∧ at_ < ((n / 32 : Nat) : Int))

set_option maxHeartbeats 400000 in
theorem has_any (A : Option Addr) (n c : Nat) (wv lv : Value) (at_ : Int) (w : World) (hn : n ≤ 9223372036854775807) :
    Calls Tryd.prog 45 #[.agg #[.slice A n c, wv, lv], .int .i64 at_] w fun e w' => e = .returned (.bool (hasB n at_)) ∧ Below w.heap.size w w' := by
  go_enter Tryd.func45, Tryd.ntmps45
  go_wp2
  all_goals go_ret
  all_goals refine ⟨ret_b rfl ?_, ?_⟩
  all_goals first
    | (unfold hasB; rw [Bool.eq_iff_iff]; simp; omega)
    | (repeat (first | exact Below.refl _ _ | refine Below.alloc ?_ (by simp) _))

def leftB (l : Int) : Bool := decide (l = -1 ∨ (0 ≤ l ∧ l ≤ 1073741824))
set_option maxHeartbeats 400000 in
theorem left_any (l : Int) (w : World) :
    Calls Tryd.prog 59 #[.int .i64 l] w fun e w' => e = .returned (.bool (leftB l)) ∧ w = w' := by
  go_enter Tryd.func59, Tryd.ntmps59
  go_wp2
  all_goals go_ret
  all_goals refine ⟨ret_b rfl ?_, rfl⟩
  all_goals (unfold leftB; rw [Bool.eq_iff_iff]; simp; try omega)

def wetFrom (n : Int) : Int → List Pg → Bool
  | _, [] => true
  | last, p :: ps => decide (last < p.at_ ∧ p.at_ < n ∧ p.b.length = 32) && wetFrom n p.at_ ps

set_option maxHeartbeats 400000 in
theorem wet_any (lo : Nat) (v : Value) (ps : List Pg) (n : Int) (w : World) (h : Pgs lo w.heap.size w v ps) :
    Calls Tryd.prog 60 #[v, .int .i64 n] w fun e w' => e = .returned (.bool (wetFrom n (-1) ps)) ∧ Below w.heap.size w w' := by
  obtain ⟨A, c, rfl, hlc, hc, hA, hcell⟩ := h
  go_enter Tryd.func60, Tryd.ntmps60
  go_wp2
  go_loopw [5, 10] (fun l i wr => ∃ (k : Nat) (last : Int), k ≤ ps.length ∧ i = .int .i64 k ∧ l = .int .i64 last ∧ wetFrom n (-1) ps = wetFrom n last (ps.drop k) ∧ Below w.heap.size w wr) (fun _ i _ => ps.length - (intOf i).toNat)
  case atStart => exact ⟨0, -1, Nat.zero_le _, rfl, rfl, by simp, Below.refl _ _⟩
  case round =>
    obtain ⟨k, last, hk, rfl, rfl, hw, hb⟩ := hrel
    by_cases hlt : k < ps.length
    · obtain ⟨b, off, rfl, hb1, hb2⟩ := hA (by omega)
      obtain ⟨cs, hcs, hcc, bv, rfl, hbv⟩ := hcell b off rfl k hlt
      have c0 := (hb.cell (p := ⟨b, off + k * 2 + 0, none⟩) hb2).trans (hcc 0 (by simp))
      have c1 := (hb.cell (p := ⟨b, off + k * 2 + 1, none⟩) hb2).trans (hcc 1 (by simp))
      obtain ⟨A2, c2, rfl, hl2, hc2, _⟩ := hbv
      simp at c0 c1
      clear hcc hcell hA
      have hd : ps.drop k = ps[k] :: ps.drop (k + 1) := List.drop_eq_getElem_cons hlt
      have hL : ps[k].b.length ≤ 9223372036854775807 := by omega
      generalize hpk : ps[k] = p at *
      have Hpk := Lib.hid hpk; clear hpk
      have Hw := Lib.hid hw; clear hw
      have Hd := Lib.hid hd; clear hd
      clear hcs hl2 hc2
      go_wp2
      all_goals first
        | (go_roundw
           case rel =>
            refine ⟨k + 1, p.at_, by omega, by go_num, rfl, ?_, by (repeat (first | with_reducible exact Below.refl _ _ | with_reducible assumption | with_reducible refine Below.drew ?_ | with_reducible refine bl_alloc ?_ _ | with_reducible refine bl_call ?_ (by assumption) | (focus (with_reducible refine Below.setCell ?_ ?_ _; rotate_left; focus (first | omega | (simp <;> omega)))) | fail))⟩
            rw [Hw.out, Hd.out, wetFrom]
            have h32 : p.b.length = 32 := by
              have : ((p.b.length : Int) != 32) = false := by simp_all
              simp at this; omega
            simp [*]
           case measure => simp [intOf]; omega)
        | (go_ret
           refine ⟨ret_b rfl ?_, by (repeat (first | with_reducible exact Below.refl _ _ | with_reducible assumption | with_reducible refine Below.drew ?_ | with_reducible refine bl_alloc ?_ _ | with_reducible refine bl_call ?_ (by assumption) | (focus (with_reducible refine Below.setCell ?_ ?_ _; rotate_left; focus (first | omega | (simp <;> omega)))) | fail))⟩
           rw [Hw.out, Hd.out, wetFrom]
           symm
           rw [Bool.and_eq_false_iff]
           left
           simp only [decide_eq_false_iff_not]
           rintro ⟨a1, a2, a3⟩
           first | omega | (simp_all; done) | (simp_all; omega))
    · go_wp2
      go_ret
      refine ⟨ret_b rfl ?_, hb⟩
      rw [hw, List.drop_of_length_le (by omega)]; rfl

/-- OK or ErrArg. -/
def badE (b : Bool) : Int := if b then 0 else 1
/-- May this disk be? -/
def okD (d : Dk) : Bool := decide (d.dry.length % 32 = 0) && decide (1 ≤ d.dry.length / 32) && decide (d.dry.length / 32 ≤ 8192) && leftB d.left && wetFrom ((d.dry.length / 32 : Nat) : Int) (-1) d.wet

set_option maxHeartbeats 400000 in
theorem check_any (lo : Nat) (v : Value) (d : Dk) (w : World) (h : Dsk lo w.heap.size w v d) :
    Calls Tryd.prog 44 #[v] w fun e w' => e = .returned (.int .i64 (badE (okD d))) ∧ Below w.heap.size w w' := by
  obtain ⟨va, vb, rfl, ha, hb⟩ := h
  obtain ⟨A, c, rfl, h1, h2, h3⟩ := ha
  have hn : d.dry.length ≤ 9223372036854775807 := by omega
  clear h1 h2 h3
  have hk : okD d = (decide (d.dry.length % 32 = 0) && decide (1 ≤ d.dry.length / 32) && decide (d.dry.length / 32 ≤ 8192) && leftB d.left && wetFrom ((d.dry.length / 32 : Nat) : Int) (-1) d.wet) := rfl
  generalize d.dry.length = N at *
  generalize d.left = L at *
  have HK := Lib.hid hk; clear hk
  have hL := left_any L
  have HL := Lib.hid hL; clear hL
  go_enter Tryd.func44, Tryd.ntmps44
  have hwet : ∀ W, Agree lo w.heap.size w W → w.heap.size ≤ W.heap.size → Calls Tryd.prog 60 #[vb, .int .i64 ((N / 32 : Nat) : Int)] W fun e w' => e = .returned (.bool (wetFrom ((N / 32 : Nat) : Int) (-1) d.wet)) ∧ Below W.heap.size W w' :=
    fun W ha hz => wet_any lo vb d.wet _ W ((hb.keep ha).mono (Nat.le_refl _) hz)
  have HW := Lib.hid hwet; clear hwet
  go_wp2_with (first
    | (go_at_call 58; refine (sectors_any _ _ _ _ _ _ hn).mono ?_; rintro e w1 ⟨rfl, hb1⟩; obtain ⟨hc1, hf1⟩ := bcell hb1; have HB1 : Below w.heap.size w w1 := bl_call (by (repeat (first | with_reducible exact Below.refl _ _ | with_reducible assumption | with_reducible refine Below.drew ?_ | with_reducible refine bl_alloc ?_ _ | with_reducible refine bl_call ?_ (by assumption) | (focus (with_reducible refine Below.setCell ?_ ?_ _; rotate_left; focus (first | omega | (simp <;> omega)))) | fail))) hb1)
    | (go_at_call 59; refine (HL.out _).mono ?_; rintro e w2 ⟨rfl, rfl⟩)
    | (go_at_call 60; refine (HW.out _ (Agree.of_below HB1 (Nat.le_refl _)) HB1.size).mono ?_; rintro e w2 ⟨rfl, hb2⟩; have HB2 := bl_call HB1 hb2)
    | fail)
  all_goals go_ret
  all_goals refine ⟨ret_i rfl ?_, by (repeat (first | with_reducible exact Below.refl _ _ | with_reducible assumption | with_reducible refine Below.drew ?_ | with_reducible refine bl_alloc ?_ _ | with_reducible refine bl_call ?_ (by assumption) | (focus (with_reducible refine Below.setCell ?_ ?_ _; rotate_left; focus (first | omega | (simp <;> omega)))) | fail))⟩
  all_goals (rw [HK.out, badE]; simp only [Bool.and_eq_true, decide_eq_true_eq, Int.natCast_ediv, Int.cast_ofNat_Int]; symm)
  all_goals first
    | (rw [if_neg]
       rintro ⟨⟨⟨⟨a1, a2⟩, a3⟩, a4⟩, a5⟩
       first | omega | (simp_all; done))
    | (rw [if_pos]
       refine ⟨⟨⟨⟨?_, ?_⟩, ?_⟩, ?_⟩, ?_⟩ <;> first | omega | (simp_all; done))

end Go.Proofs.YtommlgdolahfbaaDoor
