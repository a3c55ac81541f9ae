import Derived.Test.YtplnnlepjooeoaaDoorW5
namespace Go.Proofs.YtplnnlepjooeoaaDoor
open Go.RowKit

theorem info5 : (Tryd.prog.info? 5).map (fun i => (i.zero, i.size, i.bytes)) = some (some (.int .u8 0), 1, 1) := by kernel_rfl
theorem own_base {w : World} {base : Nat} {e : TypeId} {size : Nat} {v : Value} {n : Nat} {xs : List Value} (h : w.ownsRow base e size v n xs) : ∀ k, v.ownBlock = some k → base ≤ k := by
  intro k hk
  rcases h.2 with ⟨rfl, _⟩ | ⟨g, cap, cur, rfl, hb, _⟩
  · simp [Value.ownBlock] at hk
  · simp [Value.ownBlock] at hk; omega
theorem Bs.own {w : World} {base n : Nat} {e : TypeId} {v : Value} {l : List UInt8} (h : w.ownsRow base e 1 v n (l.map u8v)) : Bs base w.heap.size w v l := by
  have hn : n = l.length := by have := ownsRow_len h; simpa using this.symm
  subst hn
  exact Bs.of_own h
theorem eql_reg (t : TypeId) (x y : Reg) : binOp .eql t (u32v x) (u32v y) = pure (.bool (decide (x = y))) := u32v_eql t x y

set_option maxHeartbeats 1000000 in
theorem two_gate (r : Value) (A B : Option Addr) (n m ca cb : Nat) (w : World) (h : 500 < n ∨ (n ≤ 500 ∧ 500 < m)) :
    Calls Tryd.prog 3 #[r, .slice A n ca, .slice B m cb] w fun e w' => e = .returned (.bool true) ∧ Below w.heap.size w w' := by
  rcases h with h | ⟨h, h1⟩
  · have h' : (500 : Int) < (n : Int) := by omega
    go_enter Tryd.func3, Tryd.ntmps3
    go_wp2_with (first | (go_at_call 4; refine (live_any _).mono ?_; rintro e w1 ⟨rfl, hb1⟩) | fail)
    go_ret
    exact ⟨rfl, hb1⟩
  · have h' : ¬ (500 : Int) < (n : Int) := by omega
    have h2' : (500 : Int) < (m : Int) := by omega
    go_enter Tryd.func3, Tryd.ntmps3
    go_wp2_with (first | (go_at_call 4; refine (live_any _).mono ?_; rintro e w1 ⟨rfl, hb1⟩) | fail)
    go_ret
    exact ⟨rfl, hb1⟩

section
attribute [local go_sem] eql_reg eqGuard_u32
set_option maxHeartbeats 2000000 in
theorem two_go (lo : Nat) (r : Reg) (va vb : Value) (a b : List UInt8) (w : World) (ha : Bs lo w.heap.size w va a) (hb : Bs lo w.heap.size w vb b) (hla : a.length ≤ 500) (hlb : b.length ≤ 500) (ht : Tab w) (hw : 0 < w.heap.size) :
    Calls Tryd.prog 3 #[u32v r, va, vb] w fun e w' => e = .returned (.bool true) ∧ Below w.heap.size w w' := by
  obtain ⟨i0, hi0, hz0, hz1, hz2⟩ := info_parts info5
  have sa := fun W (hb' : Below w.heap.size w W) => sum_any lo w.heap.size va a W (ha.below hb' (Nat.le_refl _))
  have sb := fun W (hb' : Below w.heap.size w W) => sum_any lo w.heap.size vb b W (hb.below hb' (Nat.le_refl _))
  have ta := fun q W (hb' : Below w.heap.size w W) => step_any lo w.heap.size va a q W (ha.below hb' (Nat.le_refl _))
  have tb := fun q W (hb' : Below w.heap.size w W) => step_any lo w.heap.size vb b q W (hb.below hb' (Nat.le_refl _))
  have hj := fun x y W (hb' : Below w.heap.size w W) => join_any x y b.length W (ht.below hb' hw) (Nat.lt_of_lt_of_le hw hb'.size) (by omega)
  have hsum := sum_join a b
  have hstep := stepR_append r a b
  obtain ⟨A, ca, rfl, a1, a2, a3⟩ := id ha
  obtain ⟨B, cb, rfl, b1, b2, b3⟩ := id hb
  have srcA := ha.src.2
  have srcB := hb.src.2
  have hl1 : (a.map u8v).length = a.length * 1 := by simp
  have hl2 : (b.map u8v).length = b.length * 1 := by simp
  have ho1 := u8s_one a
  have ho2 := u8s_one b
  have b1' : 0 + a.length ≤ maxLen := by simp only [maxLen]; omega
  have b2' : (0 + a.length) * 1 ≤ 140737488355328 := by omega
  have b3' : a.length + b.length ≤ maxLen := by simp only [maxLen]; omega
  have b4' : (a.length + b.length) * 1 ≤ 140737488355328 := by omega
  clear ha hb a3 b3
  replace sa := hide sa; replace sb := hide sb; replace ta := hide ta; replace tb := hide tb; replace hj := hide hj; replace hsum := hide hsum; replace hstep := hide hstep; replace srcA := hide srcA; replace srcB := hide srcB
  replace hl1 := hide hl1; replace hl2 := hide hl2; replace ho1 := hide ho1; replace ho2 := hide ho2; replace b1' := hide b1'; replace b2' := hide b2'; replace b3' := hide b3'; replace b4' := hide b4'
  generalize hn : a.length = n at *
  generalize hm : b.length = m at *
  replace hn := hide hn; replace hm := hide hm
  have tok1 : True := trivial
  have tok2 : True := trivial
  have tok3 : True := trivial
  have tok4 : True := trivial
  have tok5 : True := trivial
  have tok6 : True := trivial
  go_enter Tryd.func3, Tryd.ntmps3
  go_wp2_with (first
    | (go_at_call 4; refine (live_any _).mono ?_; rintro e w1 ⟨rfl, hb1⟩; have srcA1 := hide (SrcOk.below (unhide srcA) hb1); have hz1' := hb1.size)
    | (at_builtin
       have _t := tok1
       refine wpList_app _ rfl (.const (.slice none 0 0)) (.tmp 21) 23 rfl w.heap.size 5 i0 _ 1 1 Tryd.underlying23 hi0 hz0 hz1 hz2 rfl (Nat.succ_pos _) _ 0 [] rfl (World.ownsRow_nil _ _ _ _) A n ca _ rfl (unhide hl1) (unhide srcA1) (unhide ho1) (unhide b1') (unhide b2') hz1' ?_
       intro v2 w2 hown2 hg2
       have hb2 : Below w.heap.size w w2 := hb1.grown hg2 hz1' (by intro k hk; simp [Act.eval, Value.ownBlock] at hk)
       rw [Nat.zero_add, List.nil_append] at hown2
       obtain ⟨A2, c2, rfl⟩ := ownsRow_form hown2
       have srcB2 := hide (SrcOk.below (unhide srcB) hb2)
       have hz2' := hb2.size
       replace hown2 := hide hown2
       clear tok1 _t)
    | (at_builtin
       have _t := tok2
       refine wpList_app _ rfl (.tmp 22) (.tmp 23) 23 rfl w.heap.size 5 i0 _ 1 1 Tryd.underlying23 hi0 hz0 hz1 hz2 rfl (Nat.succ_pos _) _ n _ rfl (unhide hown2) B m cb _ rfl (unhide hl2) (unhide srcB2) (unhide ho2) (unhide b3') (unhide b4') hz2' ?_
       intro v3 w3 hown3 hg3
       have hb3 := bl_grown hb2 hg3 (own_base (unhide hown2))
       rw [← List.map_append] at hown3
       obtain ⟨A3, c3, rfl⟩ := ownsRow_form hown3
       replace hown3 := hide hown3
       clear tok2 _t)
    | (go_at_call 6; have _t := tok3; refine (unhide sa _ hb3).mono ?_; rintro e w4 ⟨rfl, rfl⟩; clear tok3 _t)
    | (go_at_call 6; have _t := tok4; refine (unhide sb _ hb3).mono ?_; rintro e w4 ⟨rfl, rfl⟩; clear tok4 _t)
    | (go_at_call 5; refine (unhide hj _ _ _ hb3).mono ?_; rintro e w5 ⟨rfl, hb5⟩; have hbw5 := bl_call hb3 hb5; have hown5 := own_below (unhide hown3) hb5 (Nat.le_refl _); have hB5 := Bs.own hown5; replace hB5 := hide hB5; replace hb5 := hide hb5; clear hown5)
    | (go_at_call 6; refine (sum_any _ _ _ _ _ (unhide hB5)).mono ?_; rintro e w6 ⟨rfl, rfl⟩)
    | (go_at_call 7; have _t := tok5; refine (unhide ta _ _ hbw5).mono ?_; rintro e w7 ⟨rfl, rfl⟩; clear tok5 _t)
    | (go_at_call 7; have _t := tok6; refine (unhide tb _ _ hbw5).mono ?_; rintro e w7 ⟨rfl, rfl⟩; clear tok6 _t)
    | (go_at_call 7; refine (step_any _ _ _ _ _ _ (unhide hB5)).mono ?_; rintro e w8 ⟨rfl, rfl⟩)
    | fail)
  go_ret
  exact ⟨ret_b rfl (by rw [decide_eq_true_eq]; exact (unhide hstep).symm), hbw5⟩
end
theorem two_any (lo : Nat) (x : Value) (r : Reg) (va vb : Value) (a b : List UInt8) (w : World) (e : x = u32v r) (ha : Bs lo w.heap.size w va a) (hb : Bs lo w.heap.size w vb b) (ht : Tab w) (hw : 0 < w.heap.size) :
    Calls Tryd.prog 3 #[x, va, vb] w fun e w' => e = .returned (.bool true) ∧ Below w.heap.size w w' := by
  by_cases h : a.length ≤ 500 ∧ b.length ≤ 500
  · subst e
    exact two_go lo r va vb a b w ha hb h.1 h.2 ht hw
  · have h' : 500 < a.length ∨ (a.length ≤ 500 ∧ 500 < b.length) := by omega
    obtain ⟨A, ca, rfl, _⟩ := ha
    obtain ⟨B, cb, rfl, _⟩ := hb
    exact two_gate _ A B _ _ ca cb w h'
end Go.Proofs.YtplnnlepjooeoaaDoor
