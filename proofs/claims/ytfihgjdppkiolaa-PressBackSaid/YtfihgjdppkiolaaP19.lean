import Derived.Test.YtfihgjdppkiolaaP17
import Derived.Lib.SlBytesConst
namespace Go.Proofs.Ytfihgjdppkiolaa
set_option maxRecDepth 100000
open Go.RowKit

theorem os_take {lo hi : Nat} {w : World} {A : Option Addr} {n c : Nat} {t : List Int} (h : Os lo hi w (.slice A n c) t) (j : Nat) (hj : j ≤ t.length) : Os lo hi w (.slice A j c) (t.take j) := by
  obtain ⟨A', c', e, h1, h2, h3⟩ := h
  injection e with e1 e2 e3
  subst e1 e3
  have hl : (t.take j).length = j := by rw [List.length_take]; omega
  refine ⟨A, c, by rw [hl], by rw [hl]; omega, h2, fun h0 => ?_⟩
  rw [hl] at h0
  obtain ⟨b, off, e, g1, g2, g3⟩ := h3 (by omega)
  refine ⟨b, off, e, g1, g2, fun i hi' k u hu => ?_⟩
  rw [hl] at hi'
  exact g3 i (by omega) k u (by simpa using hu)

/-- What is carried from world to world. -/
def Tri (vT v v' : Value) (T : List Int) (b : List UInt8) (O : List Int) (W : World) : Prop := Os 0 W.heap.size W vT T ∧ M.Bs 0 W.heap.size W v b ∧ Os 0 W.heap.size W v' O
theorem Tri.grow {vT v v' : Value} {T : List Int} {b : List UInt8} {O : List Int} {W W' : World} (h : Tri vT v v' T b O W) (hb : Below W.heap.size W W') : Tri vT v v' T b O W' := ⟨h.1.grow hb, h.2.1.grow hb, h.2.2.grow hb⟩

set_option maxHeartbeats 1000000 in
theorem back_gate (v v' : Value) (A A' : Option Addr) (n c n' c' : Nat) (hv : v = .slice A n c) (hv' : v' = .slice A' n' c') (hn : 200 < n ∨ 20 < n') (w : World) :
    Calls Try.prog 5 #[v, v'] w fun e w' => e = .returned (.bool true) ∧ Below w.heap.size w w' := by
  subst hv hv'
  have hL := fun W => live_any W
  replace hL := hide hL
  by_cases h1 : 200 < n
  · have h1' : (200 : Int) < (n : Int) := by omega
    clear hn
    go_enter Try.func5, Try.ntmps5
    go_wp2_with (first
      | (go_at_call 9; refine (unhide hL _).mono ?_; rintro e w1 ⟨rfl, hb1⟩)
      | fail)
    go_ret
    exact ⟨rfl, hb1⟩
  · have h1' : ¬ (200 : Int) < (n : Int) := by omega
    have h2' : (20 : Int) < (n' : Int) := by omega
    clear hn h1
    go_enter Try.func5, Try.ntmps5
    go_wp2_with (first
      | (go_at_call 9; refine (unhide hL _).mono ?_; rintro e w1 ⟨rfl, hb1⟩)
      | fail)
    go_ret
    exact ⟨rfl, hb1⟩

set_option maxHeartbeats 2000000 in
theorem back_main (lo lo' : Nat) (v v' : Value) (b more : List UInt8) (w : World) (h : M.Bs lo w.heap.size w v b) (h' : M.Bs lo' w.heap.size w v' more) (hl : b.length ≤ 200) (hl' : more.length ≤ 20) :
    Calls Try.prog 5 #[v, v'] w fun e w' => e = .returned (.bool true) ∧ Below w.heap.size w w' := by
  obtain ⟨i0, hi0, iz0, iz1, iz2⟩ := info5'
  have hL := fun W => live_any W
  have hP := fun (W : World) (k : M.Bs 0 W.heap.size W v b) => Pack_good 0 v b W k (by omega)
  have hto : okB (packT b) := by
    intro x hx
    rcases List.mem_append.1 (show x ∈ le4 b.length ++ encT 528 (bitsF (toksB b)) from hx) with hx | hx
    · simp [le4] at hx; omega
    · exact encT_okB (toksB_bits (by omega)) x hx
  have hpl := packT_len (b := b) (by omega)
  have hen := (short_len (toksB_bits (b := b) (by omega))).2
  have hbl := toksB_bitsLen b
  have hT : (packT b).length ≤ 3000 := by omega
  have hlr : longR (packT b) = ((b.length : Int), 0) := by
    have e := packT_long (b := b) (by omega) []
    rw [List.append_nil] at e
    unfold longR
    rw [if_neg (by rw [e]; omega), e]
  have hu1 : unpackR (packT b) (b.length : Int) = (b, 0) := by
    have e := unpack_pack (b := b) (by omega) (most := (b.length : Int)) (by omega) [] (fun x hx => by simp at hx)
    rw [List.append_nil, if_pos rfl] at e
    exact e
  have hu2 : 0 < b.length → unpackR (packT b) ((b.length : Int) - 1) = ([], 3) := fun h0 => by
    unfold unpackR
    rw [if_neg (by omega), if_neg (by rw [hlr]; simp), if_pos (by
      have e := packT_long (b := b) (by omega) []
      rw [List.append_nil] at e
      rw [e]; omega)]
  have hu3 := unpack_short (b := b) (by omega) (most := (b.length : Int)) (by omega)
  have hu4 := unpack_pack (b := b) (by omega) (most := (b.length : Int)) (by omega) (octs more) (octs_ok more)
  have hLg := fun (v : Value) (W : World) (lo : Nat) (k : Os lo W.heap.size W v (packT b)) => Long_any lo v (packT b) W k hto
  rw [hlr] at hLg
  simp only [] at hLg
  have hU1 := fun (v : Value) (W : World) (lo : Nat) (k : Os lo W.heap.size W v (packT b)) => Unpack_is lo (packT b) _ hto (by omega) b 0 hu1 v W k
  have hU2 := fun (h0 : 0 < b.length) (v : Value) (W : World) (lo : Nat) (k : Os lo W.heap.size W v (packT b)) => Unpack_is lo (packT b) _ hto (by omega) [] 3 (hu2 h0) v W k
  have hU3 := fun (v : Value) (W : World) (lo : Nat) (k : Os lo W.heap.size W v ((packT b).take ((packT b).length - 1))) => Unpack_is lo _ _ (okB_take _ hto) (by simp; omega) [] 2 hu3 v W k
  have hU4 := fun (bs : List UInt8) (er : Int) (hh : (if octs more = [] then (b, (0 : Int)) else ([], 2)) = (bs, er)) (v : Value) (W : World) (lo : Nat) (k : Os lo W.heap.size W v (packT b ++ octs more)) => Unpack_is lo _ _ (okB_app hto (octs_ok more)) (by simp [octs_len]; omega) bs er (hu4.trans hh) v W k
  have hS := fun (v1 v2 : Value) (lo1 hi1 lo2 hi2 : Nat) (W : World) (k1 : M.Bs lo1 hi1 W v1 b) (k2 : M.Bs lo2 hi2 W v2 b) => M.sameb_any lo1 hi1 lo2 hi2 v1 v2 b b W k1 k2
  rw [decide_eq_true (rfl : b = b)] at hS
  have hsl := fun (A : Option Addr) (c : Nat) (hc : (packT b).length ≤ c) W => M.slice_b A (packT b).length c ((packT b).length - 1 : Int) ((packT b).length - 1) (by omega) (by omega) W
  have ho9 := hpl.2
  have hb0 := M.Bs.mono h (Nat.zero_le _) (Nat.le_refl _)
  have hm0 := (os_of h').mono (Nat.zero_le _) (Nat.le_refl _)
  have hml := octs_len more
  have hmn : octs more = [] ↔ more.length = 0 := by rw [← List.length_eq_zero_iff, octs_len]
  obtain ⟨A, c, rfl, x1, x2, _⟩ := h.open
  obtain ⟨A', c', rfl, x1', x2', _⟩ := h'.open
  clear hto hpl hen hbl hlr hu1 hu2 hu3 hu4 h h'
  have hE : more.length = 0 ∨ 0 < more.length := by omega
  have hE2 : b.length = 0 ∨ 0 < b.length := by omega
  generalize packT b = T at *
  generalize octs more = O at *
  generalize more.length = m at *
  obtain ⟨L, hL1⟩ : ∃ L, L = T.length := ⟨_, rfl⟩
  rw [← hL1] at hP hU3 hsl ho9 hT
  have hnn : b.length = b.length := rfl
  obtain ⟨n, hn⟩ : ∃ n, n = b.length := ⟨_, rfl⟩
  rw [← hn] at hLg hU1 hU2 hU3 hU4 hE2 hl hP hb0 ⊢
  have hl3 : ¬ (200 : Int) < (n : Int) := by omega
  have hl4 : ¬ (20 : Int) < (m : Int) := by omega
  have hL9 : (9 : Int) ≤ (L : Int) := by omega
  have hL3 : (L : Int) ≤ 3000 := by omega
  have u1 : 0 + L ≤ maxLen := by simp only [maxLen]; omega
  have u2 : (0 + L) * 1 ≤ 140737488355328 := by omega
  have u3 : L + m ≤ maxLen := by simp only [maxLen]; omega
  have u4 : (L + m) * 1 ≤ 140737488355328 := by omega
  have f1 : (T.flatMap byc).length = L * 1 := by rw [flat_len byc_len, hL1]
  have f2 : (O.flatMap byc).length = m * 1 := by rw [flat_len byc_len, hml]
  have f3 := flat_one byc_one T
  have f4 := flat_one byc_one O
  have fa : T.flatMap byc ++ O.flatMap byc = (T ++ O).flatMap byc := by rw [List.flatMap_append]
  have s1 := fun (W : World) (A : Option Addr) (c : Nat) (k : Os 0 W.heap.size W (.slice A L c) T) => (Rd.src byc_len k).2
  have s2 := fun (W : World) (k : Os 0 W.heap.size W (.slice A' m c') O) => (Rd.src byc_len k).2
  have hc0 := fun (W : World) (A : Option Addr) (c : Nat) (k : Os 0 W.heap.size W (.slice A L c) T) => (show L ≤ c from by obtain ⟨_, _, e, h1, _⟩ := k; injection e with e1 e2 e3; subst e3; omega)
  have stk := fun (W : World) (A : Option Addr) (c : Nat) (k : Os 0 W.heap.size W (.slice A L c) T) => os_take k (L - 1) (by omega)
  have hcast : ((L - 1 : Nat) : Int) = (L : Int) - 1 := by omega
  replace hL := hide hL; replace hP := hide hP; replace hLg := hide hLg; replace hU1 := hide hU1; replace hU2 := hide hU2; replace hU3 := hide hU3; replace hU4 := hide hU4; replace hS := hide hS; replace hsl := hide hsl
  replace hb0 := hide hb0; replace hm0 := hide hm0; replace u1 := hide u1; replace u2 := hide u2; replace u3 := hide u3; replace u4 := hide u4; replace f1 := hide f1; replace f2 := hide f2; replace f3 := hide f3; replace f4 := hide f4; replace fa := hide fa; replace s1 := hide s1; replace s2 := hide s2; replace hc0 := hide hc0; replace stk := hide stk; replace hcast := hide hcast; replace hmn := hide hmn
  clear hL1 hn hnn hml hT ho9 hl hl'
  rcases hE2 with h1 | h1
  · rcases hE with h2 | h2
    · have tkA : True := trivial
      have hn0 : ¬ (0 : Int) < (n : Int) := by omega
      have hO := (unhide hmn).2 h2
      have hU4' := unhide hU4 b 0 (by rw [if_pos hO])
      replace hU4' := hide hU4'; replace hO := hide hO
      clear hU4 hU2
      subst h1
      subst h2
      go_enter Try.func5, Try.ntmps5
      go_wp2_with (first
        | (go_at_call 9; refine (unhide hL _).mono ?_; rintro e w1 ⟨rfl, hb1⟩; have b1 := hide ((unhide hb0).grow hb1); have o1 := hide ((unhide hm0).grow hb1); replace hb1 := hide hb1)
        | (go_at_call 12; refine (unhide hP _ (unhide b1)).mono ?_; rintro e w2 ⟨A2, c2, rfl, p2, hb2⟩
           have t2 : Hid (Tri (.slice A2 L c2) _ _ T b O w2) := hide ⟨(Rd.of_own byc_len (by omega) p2).mono (Nat.zero_le _) (Nat.le_refl _), (unhide b1).grow hb2, (unhide o1).grow hb2⟩
           replace hb2 := hide (bl_call (unhide hb1) hb2); clear b1 o1 hb1 p2)
        | (go_at_call 14; refine (unhide hLg _ _ _ (unhide t2).1).mono ?_; rintro e w3 ⟨rfl, hb3⟩; have t3 := hide ((unhide t2).grow hb3); replace hb3 := hide (bl_call (unhide hb2) hb3); clear t2 hb2)
        | (have _t := tkA; go_at_call 18; clear _t tkA; refine (unhide hU1 _ _ _ (unhide t3).1).mono ?_; rintro e w4 ⟨A4, c4, rfl, o4, hb4⟩; have t4 := hide ((unhide t3).grow hb4); replace hb4 := hide (bl_call (unhide hb3) hb4); have q4 := hide (M.Bs.own o4); clear t3 hb3 o4)
        | (go_at_call 17; (have z1 := unhide q4; have z2 := unhide t4; have z3 := z2.2.1; have z4 := unhide hS _ _ _ _ _ _ _ z1 z3; have z5 := unhide hc0 _ _ _ z2.1; have c9 : ∀ W : World, (Instr.slice 23 (.slice A2 L c2) none (some (.int .i64 ((L : Int) - 1))) none).run Try.prog W = .ok (.slice A2 (L - 1) c2) W := fun W => unhide hsl A2 c2 z5 W; clear z1 z2 z3 z5; refine z4.mono ?_; clear z4; rintro e w5 ⟨rfl, rfl⟩; have tkD : True := trivial))
        | (have _t := tkD; go_at_call 18; clear _t tkD; refine (unhide hU3 _ _ _ (unhide stk _ _ _ (unhide t4).1)).mono ?_; rintro e w6 ⟨A6, c6, rfl, _, hb6⟩; have t6 := hide ((unhide t4).grow hb6); replace hb6 := hide (bl_call (unhide hb4) hb6); have tkE : True := trivial; clear t4 hb4 c9)
        | (have _t := tkE; at_builtin; clear _t tkE
           refine wpList_app _ rfl (.const (.slice none 0 0)) (.tmp 92) 23 rfl w6.heap.size 5 i0 _ 1 1 Try.underlying23 hi0 iz0 iz1 iz2 rfl (Nat.succ_pos _) _ 0 [] rfl (World.ownsRow_nil _ _ _ _) A2 L c2 (T.flatMap byc) rfl (unhide f1) (unhide s1 _ _ _ (unhide t6).1) (unhide f3) (unhide u1) (unhide u2) (Nat.le_refl _) ?_
           intro v7 w7 o7 hg7
           obtain ⟨A7, c7, rfl⟩ := ownsRow_form o7
           rw [List.nil_append, Nat.zero_add] at o7
           have B7 : Below w6.heap.size w6 w7 := (Below.refl _ _).grown hg7 (Nat.le_refl _) (by intro k hk; simp [Act.eval, Value.ownBlock] at hk)
           have t7 := hide ((unhide t6).grow B7)
           replace o7 := hide o7; replace B7 := hide B7
           have tkF : True := trivial)
        | (have _t := tkF; at_builtin; clear _t tkF
           refine wpList_app _ rfl (.tmp 93) (.tmp 94) 23 rfl w6.heap.size 5 i0 _ 1 1 Try.underlying23 hi0 iz0 iz1 iz2 rfl (Nat.succ_pos _) _ L (T.flatMap byc) rfl (unhide o7) A' 0 c' (O.flatMap byc) rfl (unhide f2) (unhide s2 _ (unhide t7).2.2) (unhide f4) (unhide u3) (unhide u4) (unhide B7).size ?_
           intro v8 w8 o8 hg8
           obtain ⟨A8, c8, rfl⟩ := ownsRow_form o8
           rw [unhide fa] at o8
           have B8 : Below w6.heap.size w6 w8 := (unhide B7).grown hg8 (unhide B7).size (own_base (unhide o7))
           have r8 := hide (Rd.of_own byc_len (by omega) o8)
           replace B8 := hide (bl_call (unhide hb6) B8)
           have tkG : True := trivial)
        | (have _t := tkG; go_at_call 18; clear _t tkG; refine (unhide hU4' _ _ _ (unhide r8)).mono ?_; rintro e w9 ⟨A9, c9', rfl, _, hb9⟩)
        | fail)
      go_ret
      exact ⟨rfl, bl_call (unhide B8) hb9⟩
    · have tkA : True := trivial
      have hn0 : ¬ (0 : Int) < (n : Int) := by omega
      have hO : ¬ O = [] := fun e => by have := (unhide hmn).1 e; omega
      have hU4' := unhide hU4 [] 2 (by rw [if_neg hO])
      replace hU4' := hide hU4'; replace hO := hide hO
      clear hU4 hU2
      subst h1
      have h2' : ((m : Int) == 0) = false := by rw [beq_eq_false_iff_ne]; omega
      go_enter Try.func5, Try.ntmps5
      go_wp2_with (first
        | (go_at_call 9; refine (unhide hL _).mono ?_; rintro e w1 ⟨rfl, hb1⟩; have b1 := hide ((unhide hb0).grow hb1); have o1 := hide ((unhide hm0).grow hb1); replace hb1 := hide hb1)
        | (go_at_call 12; refine (unhide hP _ (unhide b1)).mono ?_; rintro e w2 ⟨A2, c2, rfl, p2, hb2⟩
           have t2 : Hid (Tri (.slice A2 L c2) _ _ T b O w2) := hide ⟨(Rd.of_own byc_len (by omega) p2).mono (Nat.zero_le _) (Nat.le_refl _), (unhide b1).grow hb2, (unhide o1).grow hb2⟩
           replace hb2 := hide (bl_call (unhide hb1) hb2); clear b1 o1 hb1 p2)
        | (go_at_call 14; refine (unhide hLg _ _ _ (unhide t2).1).mono ?_; rintro e w3 ⟨rfl, hb3⟩; have t3 := hide ((unhide t2).grow hb3); replace hb3 := hide (bl_call (unhide hb2) hb3); clear t2 hb2)
        | (have _t := tkA; go_at_call 18; clear _t tkA; refine (unhide hU1 _ _ _ (unhide t3).1).mono ?_; rintro e w4 ⟨A4, c4, rfl, o4, hb4⟩; have t4 := hide ((unhide t3).grow hb4); replace hb4 := hide (bl_call (unhide hb3) hb4); have q4 := hide (M.Bs.own o4); clear t3 hb3 o4)
        | (go_at_call 17; (have z1 := unhide q4; have z2 := unhide t4; have z3 := z2.2.1; have z4 := unhide hS _ _ _ _ _ _ _ z1 z3; have z5 := unhide hc0 _ _ _ z2.1; have c9 : ∀ W : World, (Instr.slice 23 (.slice A2 L c2) none (some (.int .i64 ((L : Int) - 1))) none).run Try.prog W = .ok (.slice A2 (L - 1) c2) W := fun W => unhide hsl A2 c2 z5 W; clear z1 z2 z3 z5; refine z4.mono ?_; clear z4; rintro e w5 ⟨rfl, rfl⟩; have tkD : True := trivial))
        | (have _t := tkD; go_at_call 18; clear _t tkD; refine (unhide hU3 _ _ _ (unhide stk _ _ _ (unhide t4).1)).mono ?_; rintro e w6 ⟨A6, c6, rfl, _, hb6⟩; have t6 := hide ((unhide t4).grow hb6); replace hb6 := hide (bl_call (unhide hb4) hb6); have tkE : True := trivial; clear t4 hb4 c9)
        | (have _t := tkE; at_builtin; clear _t tkE
           refine wpList_app _ rfl (.const (.slice none 0 0)) (.tmp 92) 23 rfl w6.heap.size 5 i0 _ 1 1 Try.underlying23 hi0 iz0 iz1 iz2 rfl (Nat.succ_pos _) _ 0 [] rfl (World.ownsRow_nil _ _ _ _) A2 L c2 (T.flatMap byc) rfl (unhide f1) (unhide s1 _ _ _ (unhide t6).1) (unhide f3) (unhide u1) (unhide u2) (Nat.le_refl _) ?_
           intro v7 w7 o7 hg7
           obtain ⟨A7, c7, rfl⟩ := ownsRow_form o7
           rw [List.nil_append, Nat.zero_add] at o7
           have B7 : Below w6.heap.size w6 w7 := (Below.refl _ _).grown hg7 (Nat.le_refl _) (by intro k hk; simp [Act.eval, Value.ownBlock] at hk)
           have t7 := hide ((unhide t6).grow B7)
           replace o7 := hide o7; replace B7 := hide B7
           have tkF : True := trivial)
        | (have _t := tkF; at_builtin; clear _t tkF
           refine wpList_app _ rfl (.tmp 93) (.tmp 94) 23 rfl w6.heap.size 5 i0 _ 1 1 Try.underlying23 hi0 iz0 iz1 iz2 rfl (Nat.succ_pos _) _ L (T.flatMap byc) rfl (unhide o7) A' m c' (O.flatMap byc) rfl (unhide f2) (unhide s2 _ (unhide t7).2.2) (unhide f4) (unhide u3) (unhide u4) (unhide B7).size ?_
           intro v8 w8 o8 hg8
           obtain ⟨A8, c8, rfl⟩ := ownsRow_form o8
           rw [unhide fa] at o8
           have B8 : Below w6.heap.size w6 w8 := (unhide B7).grown hg8 (unhide B7).size (own_base (unhide o7))
           have r8 := hide (Rd.of_own byc_len (by omega) o8)
           replace B8 := hide (bl_call (unhide hb6) B8)
           have tkG : True := trivial)
        | (have _t := tkG; go_at_call 18; clear _t tkG; refine (unhide hU4' _ _ _ (unhide r8)).mono ?_; rintro e w9 ⟨A9, c9', rfl, _, hb9⟩)
        | fail)
      go_ret
      exact ⟨rfl, bl_call (unhide B8) hb9⟩
  · rcases hE with h2 | h2
    · have tkA : True := trivial
      have hn0 : (0 : Int) < (n : Int) := by omega
      have hU2' := unhide hU2 h1
      replace hU2' := hide hU2'
      have hO := (unhide hmn).2 h2
      have hU4' := unhide hU4 b 0 (by rw [if_pos hO])
      replace hU4' := hide hU4'; replace hO := hide hO
      clear hU4 hU2
      subst h2
      go_enter Try.func5, Try.ntmps5
      go_wp2_with (first
        | (go_at_call 9; refine (unhide hL _).mono ?_; rintro e w1 ⟨rfl, hb1⟩; have b1 := hide ((unhide hb0).grow hb1); have o1 := hide ((unhide hm0).grow hb1); replace hb1 := hide hb1)
        | (go_at_call 12; refine (unhide hP _ (unhide b1)).mono ?_; rintro e w2 ⟨A2, c2, rfl, p2, hb2⟩
           have t2 : Hid (Tri (.slice A2 L c2) _ _ T b O w2) := hide ⟨(Rd.of_own byc_len (by omega) p2).mono (Nat.zero_le _) (Nat.le_refl _), (unhide b1).grow hb2, (unhide o1).grow hb2⟩
           replace hb2 := hide (bl_call (unhide hb1) hb2); clear b1 o1 hb1 p2)
        | (go_at_call 14; refine (unhide hLg _ _ _ (unhide t2).1).mono ?_; rintro e w3 ⟨rfl, hb3⟩; have t3 := hide ((unhide t2).grow hb3); replace hb3 := hide (bl_call (unhide hb2) hb3); clear t2 hb2)
        | (have _t := tkA; go_at_call 18; clear _t tkA; refine (unhide hU1 _ _ _ (unhide t3).1).mono ?_; rintro e w4 ⟨A4, c4, rfl, o4, hb4⟩; have t4 := hide ((unhide t3).grow hb4); replace hb4 := hide (bl_call (unhide hb3) hb4); have q4 := hide (M.Bs.own o4); clear t3 hb3 o4)
        | (go_at_call 17; (have z1 := unhide q4; have z2 := unhide t4; have z3 := z2.2.1; have z4 := unhide hS _ _ _ _ _ _ _ z1 z3; have z5 := unhide hc0 _ _ _ z2.1; have c9 : ∀ W : World, (Instr.slice 23 (.slice A2 L c2) none (some (.int .i64 ((L : Int) - 1))) none).run Try.prog W = .ok (.slice A2 (L - 1) c2) W := fun W => unhide hsl A2 c2 z5 W; clear z1 z2 z3 z5; refine z4.mono ?_; clear z4; rintro e w5 ⟨rfl, rfl⟩; have tkC : True := trivial))
        | (have _t := tkC; go_at_call 18; clear _t tkC; refine (unhide hU2' _ _ _ (unhide t4).1).mono ?_; rintro e w5 ⟨A5, c5, rfl, _, hb5⟩; have t5 := hide ((unhide t4).grow hb5); replace hb5 := hide (bl_call (unhide hb4) hb5); have tkD : True := trivial; clear t4 hb4 q4)
        | (have _t := tkD; go_at_call 18; clear _t tkD; refine (unhide hU3 _ _ _ (unhide stk _ _ _ (unhide t5).1)).mono ?_; rintro e w6 ⟨A6, c6, rfl, _, hb6⟩; have t6 := hide ((unhide t5).grow hb6); replace hb6 := hide (bl_call (unhide hb5) hb6); have tkE : True := trivial; clear t5 hb5 c9)
        | (have _t := tkE; at_builtin; clear _t tkE
           refine wpList_app _ rfl (.const (.slice none 0 0)) (.tmp 92) 23 rfl w6.heap.size 5 i0 _ 1 1 Try.underlying23 hi0 iz0 iz1 iz2 rfl (Nat.succ_pos _) _ 0 [] rfl (World.ownsRow_nil _ _ _ _) A2 L c2 (T.flatMap byc) rfl (unhide f1) (unhide s1 _ _ _ (unhide t6).1) (unhide f3) (unhide u1) (unhide u2) (Nat.le_refl _) ?_
           intro v7 w7 o7 hg7
           obtain ⟨A7, c7, rfl⟩ := ownsRow_form o7
           rw [List.nil_append, Nat.zero_add] at o7
           have B7 : Below w6.heap.size w6 w7 := (Below.refl _ _).grown hg7 (Nat.le_refl _) (by intro k hk; simp [Act.eval, Value.ownBlock] at hk)
           have t7 := hide ((unhide t6).grow B7)
           replace o7 := hide o7; replace B7 := hide B7
           have tkF : True := trivial)
        | (have _t := tkF; at_builtin; clear _t tkF
           refine wpList_app _ rfl (.tmp 93) (.tmp 94) 23 rfl w6.heap.size 5 i0 _ 1 1 Try.underlying23 hi0 iz0 iz1 iz2 rfl (Nat.succ_pos _) _ L (T.flatMap byc) rfl (unhide o7) A' 0 c' (O.flatMap byc) rfl (unhide f2) (unhide s2 _ (unhide t7).2.2) (unhide f4) (unhide u3) (unhide u4) (unhide B7).size ?_
           intro v8 w8 o8 hg8
           obtain ⟨A8, c8, rfl⟩ := ownsRow_form o8
           rw [unhide fa] at o8
           have B8 : Below w6.heap.size w6 w8 := (unhide B7).grown hg8 (unhide B7).size (own_base (unhide o7))
           have r8 := hide (Rd.of_own byc_len (by omega) o8)
           replace B8 := hide (bl_call (unhide hb6) B8)
           have tkG : True := trivial)
        | (have _t := tkG; go_at_call 18; clear _t tkG; refine (unhide hU4' _ _ _ (unhide r8)).mono ?_; rintro e w9 ⟨A9, c9', rfl, _, hb9⟩)
        | fail)
      go_ret
      exact ⟨rfl, bl_call (unhide B8) hb9⟩
    · have tkA : True := trivial
      have hn0 : (0 : Int) < (n : Int) := by omega
      have hU2' := unhide hU2 h1
      replace hU2' := hide hU2'
      have hO : ¬ O = [] := fun e => by have := (unhide hmn).1 e; omega
      have hU4' := unhide hU4 [] 2 (by rw [if_neg hO])
      replace hU4' := hide hU4'; replace hO := hide hO
      clear hU4 hU2
      have h2' : ((m : Int) == 0) = false := by rw [beq_eq_false_iff_ne]; omega
      go_enter Try.func5, Try.ntmps5
      go_wp2_with (first
        | (go_at_call 9; refine (unhide hL _).mono ?_; rintro e w1 ⟨rfl, hb1⟩; have b1 := hide ((unhide hb0).grow hb1); have o1 := hide ((unhide hm0).grow hb1); replace hb1 := hide hb1)
        | (go_at_call 12; refine (unhide hP _ (unhide b1)).mono ?_; rintro e w2 ⟨A2, c2, rfl, p2, hb2⟩
           have t2 : Hid (Tri (.slice A2 L c2) _ _ T b O w2) := hide ⟨(Rd.of_own byc_len (by omega) p2).mono (Nat.zero_le _) (Nat.le_refl _), (unhide b1).grow hb2, (unhide o1).grow hb2⟩
           replace hb2 := hide (bl_call (unhide hb1) hb2); clear b1 o1 hb1 p2)
        | (go_at_call 14; refine (unhide hLg _ _ _ (unhide t2).1).mono ?_; rintro e w3 ⟨rfl, hb3⟩; have t3 := hide ((unhide t2).grow hb3); replace hb3 := hide (bl_call (unhide hb2) hb3); clear t2 hb2)
        | (have _t := tkA; go_at_call 18; clear _t tkA; refine (unhide hU1 _ _ _ (unhide t3).1).mono ?_; rintro e w4 ⟨A4, c4, rfl, o4, hb4⟩; have t4 := hide ((unhide t3).grow hb4); replace hb4 := hide (bl_call (unhide hb3) hb4); have q4 := hide (M.Bs.own o4); clear t3 hb3 o4)
        | (go_at_call 17; (have z1 := unhide q4; have z2 := unhide t4; have z3 := z2.2.1; have z4 := unhide hS _ _ _ _ _ _ _ z1 z3; have z5 := unhide hc0 _ _ _ z2.1; have c9 : ∀ W : World, (Instr.slice 23 (.slice A2 L c2) none (some (.int .i64 ((L : Int) - 1))) none).run Try.prog W = .ok (.slice A2 (L - 1) c2) W := fun W => unhide hsl A2 c2 z5 W; clear z1 z2 z3 z5; refine z4.mono ?_; clear z4; rintro e w5 ⟨rfl, rfl⟩; have tkC : True := trivial))
        | (have _t := tkC; go_at_call 18; clear _t tkC; refine (unhide hU2' _ _ _ (unhide t4).1).mono ?_; rintro e w5 ⟨A5, c5, rfl, _, hb5⟩; have t5 := hide ((unhide t4).grow hb5); replace hb5 := hide (bl_call (unhide hb4) hb5); have tkD : True := trivial; clear t4 hb4 q4)
        | (have _t := tkD; go_at_call 18; clear _t tkD; refine (unhide hU3 _ _ _ (unhide stk _ _ _ (unhide t5).1)).mono ?_; rintro e w6 ⟨A6, c6, rfl, _, hb6⟩; have t6 := hide ((unhide t5).grow hb6); replace hb6 := hide (bl_call (unhide hb5) hb6); have tkE : True := trivial; clear t5 hb5 c9)
        | (have _t := tkE; at_builtin; clear _t tkE
           refine wpList_app _ rfl (.const (.slice none 0 0)) (.tmp 92) 23 rfl w6.heap.size 5 i0 _ 1 1 Try.underlying23 hi0 iz0 iz1 iz2 rfl (Nat.succ_pos _) _ 0 [] rfl (World.ownsRow_nil _ _ _ _) A2 L c2 (T.flatMap byc) rfl (unhide f1) (unhide s1 _ _ _ (unhide t6).1) (unhide f3) (unhide u1) (unhide u2) (Nat.le_refl _) ?_
           intro v7 w7 o7 hg7
           obtain ⟨A7, c7, rfl⟩ := ownsRow_form o7
           rw [List.nil_append, Nat.zero_add] at o7
           have B7 : Below w6.heap.size w6 w7 := (Below.refl _ _).grown hg7 (Nat.le_refl _) (by intro k hk; simp [Act.eval, Value.ownBlock] at hk)
           have t7 := hide ((unhide t6).grow B7)
           replace o7 := hide o7; replace B7 := hide B7
           have tkF : True := trivial)
        | (have _t := tkF; at_builtin; clear _t tkF
           refine wpList_app _ rfl (.tmp 93) (.tmp 94) 23 rfl w6.heap.size 5 i0 _ 1 1 Try.underlying23 hi0 iz0 iz1 iz2 rfl (Nat.succ_pos _) _ L (T.flatMap byc) rfl (unhide o7) A' m c' (O.flatMap byc) rfl (unhide f2) (unhide s2 _ (unhide t7).2.2) (unhide f4) (unhide u3) (unhide u4) (unhide B7).size ?_
           intro v8 w8 o8 hg8
           obtain ⟨A8, c8, rfl⟩ := ownsRow_form o8
           rw [unhide fa] at o8
           have B8 : Below w6.heap.size w6 w8 := (unhide B7).grown hg8 (unhide B7).size (own_base (unhide o7))
           have r8 := hide (Rd.of_own byc_len (by omega) o8)
           replace B8 := hide (bl_call (unhide hb6) B8)
           have tkG : True := trivial)
        | (have _t := tkG; go_at_call 18; clear _t tkG; refine (unhide hU4' _ _ _ (unhide r8)).mono ?_; rintro e w9 ⟨A9, c9', rfl, _, hb9⟩)
        | fail)
      go_ret
      exact ⟨rfl, bl_call (unhide B8) hb9⟩

theorem back_any (lo lo' : Nat) (v v' : Value) (b more : List UInt8) (w : World) (h : M.Bs lo w.heap.size w v b) (h' : M.Bs lo' w.heap.size w v' more) :
    Calls Try.prog 5 #[v, v'] w fun e w' => e = .returned (.bool true) ∧ Below w.heap.size w w' := by
  by_cases hl : b.length ≤ 200 ∧ more.length ≤ 20
  · exact back_main lo lo' v v' b more w h h' hl.1 hl.2
  · have hg : 200 < b.length ∨ 20 < more.length := by omega
    obtain ⟨A, c, e, _⟩ := h
    obtain ⟨A', c', e', _⟩ := h'
    exact back_gate v v' A A' _ c _ c' e e' hg w
end Go.Proofs.Ytfihgjdppkiolaa
