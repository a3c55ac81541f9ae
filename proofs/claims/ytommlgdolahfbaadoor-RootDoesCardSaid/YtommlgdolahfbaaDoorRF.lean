import Derived.Test.YtommlgdolahfbaaDoorRE
import Derived.Test.YtommlgdolahfbaaDoorW25
import Derived.Test.YtommlgdolahfbaaDoorRS
namespace Go.Proofs.YtommlgdolahfbaaDoor
set_option maxRecDepth 100000
open Go.RowKit

theorem map_get {l : List UInt8} {i : Nat} (hi : i < l.length) : (l.map u8v)[i]? = some (u8v l[i]) := by simp [hi]
/-- A block of octets reads as them. -/
theorem Bs.of_block {w : World} {g n : Nat} {l : List UInt8} (h : Blk w g 5 (l.map u8v).toArray) (hn : n = l.length) (hm : n ≤ 9223372036854775807) {lo : Nat} (hlo : lo ≤ g) : Bs lo w.heap.size w (.slice (some ⟨g, 0, none⟩) n n) l := by
  subst hn
  refine ⟨_, l.length, rfl, Nat.le_refl _, hm, fun _ => ⟨g, 0, rfl, hlo, h.lt, fun i hi => ?_⟩⟩
  rw [Nat.zero_add, h.cell, List.getElem?_toArray]
  exact map_get hi
/-- What Octets answers. -/
theorem Octets_any (r : Rt) (hT : OkT r) (w : World) (ht : Tab w) :
    Calls Tryd.prog 11 #[(.agg #[.int .u64 (r.gen : Nat), .int .i64 r.at_, .int .i64 r.len, .int .i64 r.long, .int .u32 (r.sum : Nat), .int .u64 (r.next : Nat)])] w fun e w' => ∃ v, e = .returned (.tuple #[v, .int .i64 (badE (rOk r))]) ∧ Bs w.heap.size w'.heap.size w' v (if rOk r then octs r else []) ∧ Below w.heap.size w w' := by
  cases h : rOk r with
  | true =>
    refine (Octets_good r h hT w ht).mono ?_
    rintro e w' ⟨g, rfl, hg, hb, bl⟩
    exact ⟨_, rfl, Bs.of_block hb (octs_len r).symm (by omega) hg, bl⟩
  | false =>
    refine (Octets_bad r h hT w).mono ?_
    rintro e w' ⟨rfl, bl⟩
    exact ⟨_, rfl, ⟨none, 0, rfl, by simp, by omega, fun h0 => by simp at h0⟩, bl⟩
abbrev zR : Array Value := #[.int .u64 0, .int .i64 0, .int .i64 0, .int .i64 0, .int .u32 0, .int .u64 0]
theorem zR_val : (.agg zR : Value) = (.agg #[.int .u64 (noRt.gen : Nat), .int .i64 noRt.at_, .int .i64 noRt.len, .int .i64 noRt.long, .int .u32 (noRt.sum : Nat), .int .u64 (noRt.next : Nat)]) := rfl
/-- Two boxes of roots: that of the result, and another one. -/
structure R2 (w : World) (r s : Array Value) (wr : World) : Prop where
  b0 : Blk wr w.heap.size 27 r
  b1 : Blk wr (w.heap.size + 1) 27 s
  bl : Below w.heap.size w wr
set_option maxHeartbeats 1000000 in
theorem Of_len (v : Value) (lo hi : Nat) (b : List UInt8) (w : World) (h : Bs lo hi w v b) (hb : b.length ≠ 32) :
    Calls Tryd.prog 13 #[v] w fun e w' => e = .returned (.tuple #[(.agg #[.int .u64 (noRt.gen : Nat), .int .i64 noRt.at_, .int .i64 noRt.len, .int .i64 noRt.long, .int .u32 (noRt.sum : Nat), .int .u64 (noRt.next : Nat)]), .int .i64 2]) ∧ Below w.heap.size w w' := by
  obtain ⟨A, c, rfl, h1, h2, h3⟩ := h
  have hn : (b.length : Int) ≠ 32 := by omega
  clear h3
  generalize b.length = n at *
  go_enter Tryd.func13, Tryd.ntmps13
  go_wp2
  exact ret_r2 rfl w.heap.size zR rfl _ rfl rfl (Blk.new rfl) rfl ⟨rfl, bl_alloc (Below.refl _ _) _⟩

theorem numbersOf_in (b : List UInt8) (W : World) : Calls Tryd.prog 31 #[numV fun m => rdN b m (wd m)] W fun e w' => e = .returned (.agg #[.int .u64 ((rdR b).gen : Nat), .int .i64 (rdR b).at_, .int .i64 (rdR b).len, .int .i64 (rdR b).long, .int .u32 ((rdR b).sum : Nat), .int .u64 ((rdR b).next : Nat)]) ∧ Below W.heap.size W w' :=
  rootOf_any (fun m => rdN b m (wd m)) (by have := rdN_lt b 1 2; exact this) (by have := rdN_lt b 2 2; exact this) (by have := rdN_lt b 3 3; exact this) (by have := rdN_lt b 4 4; exact this) W
set_option maxHeartbeats 4000000 in
theorem Of_main (v : Value) (lo : Nat) (b : List UInt8) (w : World) (ht : Tab w) (h : Bs lo w.heap.size w v b) (hb : b.length = 32) :
    Calls Tryd.prog 13 #[v] w fun e w' => e = .returned (.tuple #[(.agg #[.int .u64 ((ofR b).gen : Nat), .int .i64 (ofR b).at_, .int .i64 (ofR b).len, .int .i64 (ofR b).long, .int .u32 ((ofR b).sum : Nat), .int .u64 ((ofR b).next : Nat)]), .int .i64 (ofE b)]) ∧ Below w.heap.size w w' := by
  have hN := fun W (hB : Below w.heap.size w W) => numbersIn_any lo W.heap.size v b W (ht.below hB (Nat.le_refl _)) (h.grow hB) (Nat.le_refl _) hb
  have hR := fun W => numbersOf_in b W
  have hO := fun W (hB : Below w.heap.size w W) => Octets_any (rdR b) (rdR_ok b) W (ht.below hB (Nat.le_refl _))
  obtain ⟨r, hr⟩ : ∃ r, r = rdR b := ⟨_, rfl⟩
  rw [← hr] at hR hO
  have hE := fun v1 W (hB : Below w.heap.size w W) (hx : Bs 0 W.heap.size W v1 (octs r)) => bequal_any _ _ _ _ v1 v _ b W hx (h.grow hB)
  generalize (numV fun m => rdN b m (wd m)) = V at *
  obtain ⟨A, c, rfl, h1, h2, h3⟩ := h
  clear h3
  rw [hb] at hN hE ⊢
  cases hk : rOk r with
  | false =>
    have e1 : ofR b = noRt := by unfold ofR; rw [if_neg]; rw [ofB_iff, ← hr, hk]; simp
    have e2 : ofE b = 2 := by unfold ofE; rw [if_neg]; rw [ofB_iff, ← hr, hk]; simp
    rw [hk, show badE false = 1 from rfl] at hO
    rw [e1, e2]
    clear e1 e2 hE hk
    replace hN := hide hN; replace hR := hide hR; replace hO := hide hO; replace hr := hide hr
    go_enter Tryd.func13, Tryd.ntmps13
    go_wp2_with (first
      | (go_at_call 32; refine (unhide hN _ (by (repeat (first | with_reducible exact Below.refl _ _ | with_reducible assumption | with_reducible refine Below.drew ?_ | with_reducible refine bl_alloc ?_ _ | with_reducible refine bl_call ?_ (by assumption) | (focus (with_reducible refine Below.setCell ?_ ?_ _; rotate_left; focus (first | omega | (simp <;> omega)))) | fail)))).mono ?_; rintro e w1 ⟨rfl, b1⟩
         have k0 := hide (Blk.below (Blk.new (w := w) (cs := zR) (t := 27) rfl) b1 (by simp))
         have B1 := hide (bl_call (bl_alloc (Below.refl w.heap.size w) _) b1))
      | (go_at_call 31; refine (unhide hR _).mono ?_; rintro e w2 ⟨rfl, b2⟩
         replace k0 := hide ((unhide k0).below b2 (unhide k0).lt); replace B1 := hide (bl_call (unhide B1) b2)
         have k1 : Hid (Blk (w2.alloc (.cells #[.int .u64 (r.gen : Nat), .int .i64 r.at_, .int .i64 r.len, .int .i64 r.long, .int .u32 (r.sum : Nat), .int .u64 (r.next : Nat)] 27)) w2.heap.size 27 #[.int .u64 (r.gen : Nat), .int .i64 r.at_, .int .i64 r.len, .int .i64 r.long, .int .u32 (r.sum : Nat), .int .u64 (r.next : Nat)]) := hide (Blk.new rfl)
         replace k0 := hide ((unhide k0).alloc (.cells #[.int .u64 (r.gen : Nat), .int .i64 r.at_, .int .i64 r.len, .int .i64 r.long, .int .u32 (r.sum : Nat), .int .u64 (r.next : Nat)] 27)); replace B1 := hide (bl_alloc (unhide B1) (.cells #[.int .u64 (r.gen : Nat), .int .i64 r.at_, .int .i64 r.len, .int .i64 r.long, .int .u32 (r.sum : Nat), .int .u64 (r.next : Nat)] 27)))
      | (go_at_call 11; refine (unhide hO _ (unhide B1)).mono ?_; rintro e w3 ⟨v3, rfl, x3, b3⟩
         replace k0 := hide ((unhide k0).below b3 (unhide k0).lt); replace B1 := hide (bl_call (unhide B1) b3)
         have d0 := (unhide k0).cell 0; have d1 := (unhide k0).cell 1; have d2 := (unhide k0).cell 2; have d3 := (unhide k0).cell 3; have d4 := (unhide k0).cell 4; have d5 := (unhide k0).cell 5
         have f0 := (unhide k0).frozen 0; have f1 := (unhide k0).frozen 1; have f2 := (unhide k0).frozen 2; have f3 := (unhide k0).frozen 3; have f4 := (unhide k0).frozen 4; have f5 := (unhide k0).frozen 5
         obtain ⟨A3, c3, rfl, _⟩ := x3
         simp at d0 d1 d2 d3 d4 d5)
      | fail)
    exact ret_r2 rfl w.heap.size _ rfl _ rfl rfl (Blk.set6 (unhide k0) _ _ _ _ _ _) rfl ⟨rfl, bl_set6 (unhide B1) (Nat.le_refl _) _ _ _ _ _ _⟩
  | true =>
    rw [hk, show badE true = 0 from rfl] at hO
    simp only [if_true] at hO
    cases hq : decide (octs r = b) with
    | false =>
      have hq' : ¬ octs r = b := of_decide_eq_false hq
      have e1 : ofR b = noRt := by unfold ofR; rw [if_neg]; rw [ofB_iff, ← hr]; exact fun h => hq' h.2
      have e2 : ofE b = 2 := by unfold ofE; rw [if_neg]; rw [ofB_iff, ← hr]; exact fun h => hq' h.2
      rw [hq] at hE
      rw [e1, e2]
      clear e1 e2 hk hq hq'
      replace hN := hide hN; replace hR := hide hR; replace hO := hide hO; replace hr := hide hr; replace hE := hide hE
      go_enter Tryd.func13, Tryd.ntmps13
      go_wp2_with (first
        | (go_at_call 32; refine (unhide hN _ (by (repeat (first | with_reducible exact Below.refl _ _ | with_reducible assumption | with_reducible refine Below.drew ?_ | with_reducible refine bl_alloc ?_ _ | with_reducible refine bl_call ?_ (by assumption) | (focus (with_reducible refine Below.setCell ?_ ?_ _; rotate_left; focus (first | omega | (simp <;> omega)))) | fail)))).mono ?_; rintro e w1 ⟨rfl, b1⟩
           have k0 := hide (Blk.below (Blk.new (w := w) (cs := zR) (t := 27) rfl) b1 (by simp))
           have B1 := hide (bl_call (bl_alloc (Below.refl w.heap.size w) _) b1))
        | (go_at_call 31; refine (unhide hR _).mono ?_; rintro e w2 ⟨rfl, b2⟩
           replace k0 := hide ((unhide k0).below b2 (unhide k0).lt); replace B1 := hide (bl_call (unhide B1) b2)
           have k1 : Hid (Blk (w2.alloc (.cells #[.int .u64 (r.gen : Nat), .int .i64 r.at_, .int .i64 r.len, .int .i64 r.long, .int .u32 (r.sum : Nat), .int .u64 (r.next : Nat)] 27)) w2.heap.size 27 #[.int .u64 (r.gen : Nat), .int .i64 r.at_, .int .i64 r.len, .int .i64 r.long, .int .u32 (r.sum : Nat), .int .u64 (r.next : Nat)]) := hide (Blk.new rfl)
           replace k0 := hide ((unhide k0).alloc (.cells #[.int .u64 (r.gen : Nat), .int .i64 r.at_, .int .i64 r.len, .int .i64 r.long, .int .u32 (r.sum : Nat), .int .u64 (r.next : Nat)] 27)); replace B1 := hide (bl_alloc (unhide B1) (.cells #[.int .u64 (r.gen : Nat), .int .i64 r.at_, .int .i64 r.len, .int .i64 r.long, .int .u32 (r.sum : Nat), .int .u64 (r.next : Nat)] 27)))
        | (go_at_call 11; refine (unhide hO _ (unhide B1)).mono ?_; rintro e w3 ⟨v3, rfl, x3, b3⟩
           replace k0 := hide ((unhide k0).below b3 (unhide k0).lt); replace B1 := hide (bl_call (unhide B1) b3)
           have d0 := (unhide k0).cell 0; have d1 := (unhide k0).cell 1; have d2 := (unhide k0).cell 2; have d3 := (unhide k0).cell 3; have d4 := (unhide k0).cell 4; have d5 := (unhide k0).cell 5
           have f0 := (unhide k0).frozen 0; have f1 := (unhide k0).frozen 1; have f2 := (unhide k0).frozen 2; have f3 := (unhide k0).frozen 3; have f4 := (unhide k0).frozen 4; have f5 := (unhide k0).frozen 5
           have x4 := x3.mono (Nat.zero_le _) (Nat.le_refl _)
           obtain ⟨A3, c3, rfl, _⟩ := x3
           replace x4 := hide x4
           simp at d0 d1 d2 d3 d4 d5)
        | (go_at_call 33; refine (unhide hE _ _ (unhide B1) (unhide x4)).mono ?_; rintro e w4 ⟨rfl, rfl⟩)
        | fail)
      exact ret_r2 rfl w.heap.size _ rfl _ rfl rfl (Blk.set6 (unhide k0) _ _ _ _ _ _) rfl ⟨rfl, bl_set6 (unhide B1) (Nat.le_refl _) _ _ _ _ _ _⟩
    | true =>
      have hq' : octs r = b := of_decide_eq_true hq
      have e1 : ofR b = r := by unfold ofR; rw [if_pos, hr]; rw [ofB_iff, ← hr]; exact ⟨hk, hq'⟩
      have e2 : ofE b = 0 := by unfold ofE; rw [if_pos]; rw [ofB_iff, ← hr]; exact ⟨hk, hq'⟩
      rw [hq] at hE
      rw [e1, e2]
      clear e1 e2 hk hq hq'
      replace hN := hide hN; replace hR := hide hR; replace hO := hide hO; replace hr := hide hr; replace hE := hide hE
      go_enter Tryd.func13, Tryd.ntmps13
      go_wp2_with (first
        | (go_at_call 32; refine (unhide hN _ (by (repeat (first | with_reducible exact Below.refl _ _ | with_reducible assumption | with_reducible refine Below.drew ?_ | with_reducible refine bl_alloc ?_ _ | with_reducible refine bl_call ?_ (by assumption) | (focus (with_reducible refine Below.setCell ?_ ?_ _; rotate_left; focus (first | omega | (simp <;> omega)))) | fail)))).mono ?_; rintro e w1 ⟨rfl, b1⟩
           have k0 := hide (Blk.below (Blk.new (w := w) (cs := zR) (t := 27) rfl) b1 (by simp))
           have B1 := hide (bl_call (bl_alloc (Below.refl w.heap.size w) _) b1))
        | (go_at_call 31; refine (unhide hR _).mono ?_; rintro e w2 ⟨rfl, b2⟩
           replace k0 := hide ((unhide k0).below b2 (unhide k0).lt); replace B1 := hide (bl_call (unhide B1) b2)
           have k1 : Hid (Blk (w2.alloc (.cells #[.int .u64 (r.gen : Nat), .int .i64 r.at_, .int .i64 r.len, .int .i64 r.long, .int .u32 (r.sum : Nat), .int .u64 (r.next : Nat)] 27)) w2.heap.size 27 #[.int .u64 (r.gen : Nat), .int .i64 r.at_, .int .i64 r.len, .int .i64 r.long, .int .u32 (r.sum : Nat), .int .u64 (r.next : Nat)]) := hide (Blk.new rfl)
           replace k0 := hide ((unhide k0).alloc (.cells #[.int .u64 (r.gen : Nat), .int .i64 r.at_, .int .i64 r.len, .int .i64 r.long, .int .u32 (r.sum : Nat), .int .u64 (r.next : Nat)] 27)); replace B1 := hide (bl_alloc (unhide B1) (.cells #[.int .u64 (r.gen : Nat), .int .i64 r.at_, .int .i64 r.len, .int .i64 r.long, .int .u32 (r.sum : Nat), .int .u64 (r.next : Nat)] 27)))
        | (go_at_call 11; refine (unhide hO _ (unhide B1)).mono ?_; rintro e w3 ⟨v3, rfl, x3, b3⟩
           replace k0 := hide ((unhide k0).below b3 (unhide k0).lt); replace B1 := hide (bl_call (unhide B1) b3)
           replace k1 := hide ((unhide k1).below b3 (unhide k1).lt)
           obtain ⟨g0, g1, g2, g3, g4, g5⟩ := bk6 (unhide k1)
           have d0 := (unhide k0).cell 0; have d1 := (unhide k0).cell 1; have d2 := (unhide k0).cell 2; have d3 := (unhide k0).cell 3; have d4 := (unhide k0).cell 4; have d5 := (unhide k0).cell 5
           have f0 := (unhide k0).frozen 0; have f1 := (unhide k0).frozen 1; have f2 := (unhide k0).frozen 2; have f3 := (unhide k0).frozen 3; have f4 := (unhide k0).frozen 4; have f5 := (unhide k0).frozen 5
           have x4 := x3.mono (Nat.zero_le _) (Nat.le_refl _)
           obtain ⟨A3, c3, rfl, _⟩ := x3
           replace x4 := hide x4
           simp at d0 d1 d2 d3 d4 d5)
        | (go_at_call 33; refine (unhide hE _ _ (unhide B1) (unhide x4)).mono ?_; rintro e w4 ⟨rfl, rfl⟩)
        | fail)
      exact ret_r2 rfl w.heap.size _ rfl _ rfl rfl (Blk.set6 (unhide k0) _ _ _ _ _ _) rfl ⟨rfl, bl_set6 (unhide B1) (Nat.le_refl _) _ _ _ _ _ _⟩
/-- What Of answers. -/
theorem Of_any (v : Value) (lo : Nat) (b : List UInt8) (w : World) (ht : Tab w) (h : Bs lo w.heap.size w v b) :
    Calls Tryd.prog 13 #[v] w fun e w' => e = .returned (.tuple #[(.agg #[.int .u64 ((ofR b).gen : Nat), .int .i64 (ofR b).at_, .int .i64 (ofR b).len, .int .i64 (ofR b).long, .int .u32 ((ofR b).sum : Nat), .int .u64 ((ofR b).next : Nat)]), .int .i64 (ofE b)]) ∧ Below w.heap.size w w' := by
  by_cases hb : b.length = 32
  · exact Of_main v lo b w ht h hb
  · have e0 : ofB b = false := by unfold ofB; rw [decide_eq_false hb]; rfl
    have e1 : ofR b = noRt := by unfold ofR; rw [e0]; rfl
    have e2 : ofE b = 2 := by unfold ofE; rw [e0]; rfl
    rw [e1, e2]
    exact Of_len v lo w.heap.size b w h hb
end Go.Proofs.YtommlgdolahfbaaDoor
