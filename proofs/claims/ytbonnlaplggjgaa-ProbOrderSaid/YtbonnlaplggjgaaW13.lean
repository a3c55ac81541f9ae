import Derived.Test.YtbonnlaplggjgaaW12
namespace Go.Proofs.Ytbonnlaplggjgaa
open Go.RowKit

theorem allR_join {l : List Int} {a b : List Bit} (hok : okC l = true) (hin : a.all (inB l.length) = true) : allR l (a ++ b) = allR (allF l a) b := by
  unfold allR
  rw [hok, allF_ok hok, allF_len, List.all_append, hin, allF_append]
  simp

theorem order_gate_any (v0 v1 v2 : Value) (A0 A1 A2 : Option Addr) (n0 n1 n2 c0 c1 c2 : Nat) (at_ : Int) (w : World) (e0 : v0 = .slice A0 n0 c0) (e1 : v1 = .slice A1 n1 c1) (e2 : v2 = .slice A2 n2 c2)
    (hg : ¬ (n0 ≤ 60 ∧ n1 ≤ 100 ∧ n2 ≤ 100 ∧ 0 ≤ at_ ∧ at_ < n0)) : Calls Try.prog 6 #[v0, v1, v2, .int .i64 at_] w fun e w' => e = .returned (.bool true) ∧ Below w.heap.size w w' := by
  subst e0 e1 e2
  have hl := fun W => live_any W
  replace hl := hide hl
  by_cases h0 : n0 ≤ 60
  · by_cases h1 : n1 ≤ 100
    · by_cases h2 : n2 ≤ 100
      · by_cases h3 : 0 ≤ at_
        · by_cases h4 : at_ < n0
          · exact absurd ⟨h0, h1, h2, h3, h4⟩ hg
          · clear hg
            go_enter Try.func6, Try.ntmps6
            go_wp2_with (go_at_call 8; refine (unhide hl _).mono ?_; rintro e w1 ⟨rfl, rfl⟩)
            go_ret
            exact ⟨rfl, by (repeat (first | with_reducible exact Below.refl _ _ | with_reducible assumption | with_reducible refine Below.drew ?_ | with_reducible refine bl_alloc ?_ _ | with_reducible refine bl_call ?_ (by assumption) | (focus (with_reducible refine Below.setCell ?_ ?_ _; rotate_left; focus (first | omega | (simp <;> omega)))) | fail))⟩
        · clear hg
          go_enter Try.func6, Try.ntmps6
          go_wp2_with (go_at_call 8; refine (unhide hl _).mono ?_; rintro e w1 ⟨rfl, rfl⟩)
          go_ret
          exact ⟨rfl, by (repeat (first | with_reducible exact Below.refl _ _ | with_reducible assumption | with_reducible refine Below.drew ?_ | with_reducible refine bl_alloc ?_ _ | with_reducible refine bl_call ?_ (by assumption) | (focus (with_reducible refine Below.setCell ?_ ?_ _; rotate_left; focus (first | omega | (simp <;> omega)))) | fail))⟩
      · clear hg
        go_enter Try.func6, Try.ntmps6
        go_wp2_with (go_at_call 8; refine (unhide hl _).mono ?_; rintro e w1 ⟨rfl, rfl⟩)
        go_ret
        exact ⟨rfl, by (repeat (first | with_reducible exact Below.refl _ _ | with_reducible assumption | with_reducible refine Below.drew ?_ | with_reducible refine bl_alloc ?_ _ | with_reducible refine bl_call ?_ (by assumption) | (focus (with_reducible refine Below.setCell ?_ ?_ _; rotate_left; focus (first | omega | (simp <;> omega)))) | fail))⟩
    · clear hg
      go_enter Try.func6, Try.ntmps6
      go_wp2_with (go_at_call 8; refine (unhide hl _).mono ?_; rintro e w1 ⟨rfl, rfl⟩)
      go_ret
      exact ⟨rfl, by (repeat (first | with_reducible exact Below.refl _ _ | with_reducible assumption | with_reducible refine Below.drew ?_ | with_reducible refine bl_alloc ?_ _ | with_reducible refine bl_call ?_ (by assumption) | (focus (with_reducible refine Below.setCell ?_ ?_ _; rotate_left; focus (first | omega | (simp <;> omega)))) | fail))⟩
  · clear hg
    go_enter Try.func6, Try.ntmps6
    go_wp2_with (go_at_call 8; refine (unhide hl _).mono ?_; rintro e w1 ⟨rfl, rfl⟩)
    go_ret
    exact ⟨rfl, by (repeat (first | with_reducible exact Below.refl _ _ | with_reducible assumption | with_reducible refine Below.drew ?_ | with_reducible refine bl_alloc ?_ _ | with_reducible refine bl_call ?_ (by assumption) | (focus (with_reducible refine Below.setCell ?_ ?_ _; rotate_left; focus (first | omega | (simp <;> omega)))) | fail))⟩

set_option maxHeartbeats 1000000 in
theorem order_bad (lo lo1 : Nat) (v0 v1 v2 : Value) (l : List Int) (a : List Bit) (at_ : Int) (w : World) (h : Is lo w.heap.size w v0 l) (h1 : Bts lo1 w.heap.size w v1 a) (A2 : Option Addr) (n2 c2 : Nat) (e2 : v2 = .slice A2 n2 c2)
    (hg : l.length ≤ 60 ∧ a.length ≤ 100 ∧ n2 ≤ 100 ∧ 0 ≤ at_ ∧ at_ < l.length) (r : List Int) (er : Int) (hr : allR l a = (r, er)) (hne : er ≠ 0) :
    Calls Try.prog 6 #[v0, v1, v2, .int .i64 at_] w fun e w' => e = .returned (.bool true) ∧ Below w.heap.size w w' := by
  subst e2
  have hl := fun W => live_any W
  have hA := All_any lo lo1 v0 v1 l a r er w h h1 hr
  obtain ⟨A0, c0, rfl, _, _, _⟩ := h.open
  obtain ⟨A1, c1, rfl, _, _, _⟩ := h1.open
  obtain ⟨g0, g1, g2, g3, g4⟩ := hg
  have hne' : (er != 0) = true := by simpa using hne
  clear h h1 hne hr
  replace hl := hide hl; replace hA := hide hA
  go_enter Try.func6, Try.ntmps6
  go_wp2_with (first
    | (go_at_call 8; refine (unhide hl _).mono ?_; rintro e w1 ⟨rfl, rfl⟩)
    | (go_at_call 13; refine (unhide hA).mono ?_; rintro e w2 ⟨A3, c3, rfl, ho3, hb3⟩))
  go_ret
  exact ⟨rfl, by (repeat (first | with_reducible exact Below.refl _ _ | with_reducible assumption | with_reducible refine Below.drew ?_ | with_reducible refine bl_alloc ?_ _ | with_reducible refine bl_call ?_ (by assumption) | (focus (with_reducible refine Below.setCell ?_ ?_ _; rotate_left; focus (first | omega | (simp <;> omega)))) | fail))⟩

set_option maxHeartbeats 1000000 in
theorem order_good (lo lo1 lo2 : Nat) (v0 v1 v2 : Value) (l : List Int) (a b : List Bit) (at_ : Int) (w : World) (h : Is lo w.heap.size w v0 l) (h1 : Bts lo1 w.heap.size w v1 a) (h2 : Bts lo2 w.heap.size w v2 b)
    (hg : l.length ≤ 60 ∧ a.length ≤ 100 ∧ b.length ≤ 100 ∧ 0 ≤ at_ ∧ at_ < l.length) (hok : okC l = true) (hin : a.all (inB l.length) = true) :
    Calls Try.prog 6 #[v0, v1, v2, .int .i64 at_] w fun e w' => e = .returned (.bool true) ∧ Below w.heap.size w w' := by
  obtain ⟨i0, hi0, hz0, hz1, hz2⟩ := info_parts info41
  have hl := fun W => live_any W
  have hA := All_good lo lo1 v0 v1 l a w h h1 hok hin
  obtain ⟨r, er, hr⟩ : ∃ r er, allR (allF l a) b = (r, er) := ⟨_, _, rfl⟩
  have hr2 : allR l (a ++ b) = (r, er) := (allR_join hok hin).trans hr
  have hX := fun v W (hb : Below w.heap.size w W) hv => All_any w.heap.size lo2 v v2 (allF l a) b r er W hv (h2.grow hb) hr
  have hY := fun lo' v W (hb : Below w.heap.size w W) hv => All_any lo lo' v0 v l (a ++ b) r er W (h.grow hb) hv hr2
  have hxl := allF_len l a
  have hxa : (allF l a).getD at_.toNat 0 = oneF at_ (l.getD at_.toNat 0) a := allF_at hg.2.2.2.1 hg.2.2.2.2 (fun x hx => by rw [List.all_eq_true] at hin; exact hin x hx)
  have hpk : ∀ k, isC (oneF at_ (l.getD at_.toNat 0) (a.take k)) = true := fun k => oneF_ok _ _ ((okC_iff.1 hok).2 _ (by
    rw [List.getD_eq_getElem?_getD, List.getElem?_eq_getElem (by omega)]; exact List.getElem_mem _))
  have hsn := fun k hk => oneF_snoc at_ (l.getD at_.toNat 0) (bs := a) (k := k) hk
  obtain ⟨A0, c0, rfl, q0, q1, hc0⟩ := h.open
  obtain ⟨A1, c1, rfl, q2, q3, hc1⟩ := h1.open
  obtain ⟨A2, c2, rfl, q4, q5, _⟩ := h2.open
  have sa := fun W (hb : Below w.heap.size w W) => (Rd.src btc_len h1).2.below hb
  have sb := fun W (hb : Below w.heap.size w W) => (Rd.src btc_len h2).2.below hb
  have la := flat_len btc_len a
  have lb := flat_len btc_len b
  have oa := flat_one btc_one a
  have ob := flat_one btc_one b
  have hjoin : (a ++ b).flatMap btc = a.flatMap btc ++ b.flatMap btc := List.flatMap_append
  have hba : Hid (∀ W W' A n c, Below w.heap.size w W → W'.ownsRow W.heap.size 41 2 (.slice A n c) n ((a ++ b).flatMap btc) → Bts W.heap.size W'.heap.size W' (.slice A n c) (a ++ b)) := hide fun W W' A n c _ ho => Rd.of_own btc_len (by omega) ho
  rw [hjoin] at hba
  obtain ⟨b0, o0, rfl, p1, p2, hcl⟩ := hc0 at_.toNat (by omega)
  rw [show l[at_.toNat]'(by omega) = l.getD at_.toNat 0 by rw [List.getD_eq_getElem?_getD, List.getElem?_eq_getElem (by omega)]; rfl] at hcl
  generalize l.getD at_.toNat 0 = x0 at *
  generalize allF l a = x at *
  generalize a.flatMap btc = sA at *
  generalize b.flatMap btc = sB at *
  clear h h1 h2 hc0 hr hr2 hok hin q0 q1 q2 q3 q4 q5 hjoin
  obtain ⟨g0, g1, g2, g3, g4⟩ := hg
  have b1 : 0 + a.length ≤ maxLen := by simp only [maxLen]; omega
  have b2 : (0 + a.length) * 16 ≤ 140737488355328 := by omega
  have b3 : a.length + b.length ≤ maxLen := by simp only [maxLen]; omega
  have b4 : (a.length + b.length) * 16 ≤ 140737488355328 := by omega
  replace hl := hide hl; replace hA := hide hA; replace hX := hide hX; replace hY := hide hY; replace hxl := hide hxl; replace hxa := hide hxa; replace hpk := hide hpk; replace hsn := hide hsn
  replace sa := hide sa; replace sb := hide sb; replace la := hide la; replace lb := hide lb; replace oa := hide oa; replace ob := hide ob; replace hc1 := hide hc1
  replace b1 := hide b1; replace b2 := hide b2; replace b3 := hide b3; replace b4 := hide b4
  have tok0 : True := trivial
  go_enter Try.func6, Try.ntmps6
  go_wp2_with (first
    | (go_at_call 8; refine (unhide hl _).mono ?_; rintro e w1 ⟨rfl, rfl⟩)
    | (go_at_call 13; have _t := tok2; clear tok2 _t; refine (unhide hY _ _ _ (bl_call (unhide hbw3) hb7) (unhide hz)).mono ?_; rintro e w6 ⟨A6, c6, rfl, ho6, hb6⟩; have hy6 := Rd.of_own ivc_len (by omega) ho6; replace ho6 := hide ho6; replace hy6 := hide hy6)
    | (go_at_call 13; have _t := tok1; clear tok1 _t; refine (unhide hX _ _ (by (repeat (first | with_reducible exact Below.refl _ _ | with_reducible assumption | with_reducible refine Below.drew ?_ | with_reducible refine bl_alloc ?_ _ | with_reducible refine bl_call ?_ (by assumption) | (focus (with_reducible refine Below.setCell ?_ ?_ _; rotate_left; focus (first | omega | (simp <;> omega)))) | fail))) (unhide hx3)).mono ?_; rintro e w3 ⟨A4, c4, rfl, ho4, hb4⟩; have hy4 := Rd.of_own ivc_len (by omega) ho4; replace ho4 := hide ho4; replace hy4 := hide hy4; have hbw3 : Below w.heap.size w w3 := bl_call hb3 hb4; replace hbw3 := hide hbw3; have tok3 : True := trivial)
    | (go_at_call 13; have _t := tok0; clear tok0 _t; refine (unhide hA).mono ?_; rintro e w2 ⟨A3, c3, rfl, ho3, hb3⟩; have hx3 := Rd.of_own ivc_len (by omega) ho3; replace ho3 := hide ho3; replace hx3 := hide hx3; have tok1 : True := trivial)
    | (at_builtin
       have _t := tok3
       refine wpList_app _ rfl (.const (.slice none 0 0)) (.tmp 63) 23 rfl w3.heap.size 41 i0 _ 2 16 Try.underlying23 hi0 hz0 hz1 hz2 rfl (Nat.succ_pos _) _ 0 [] rfl (World.ownsRow_nil _ _ _ _) A1 a.length c1 sA rfl (unhide la) (unhide sa _ (unhide hbw3)) (unhide oa) (unhide b1) (unhide b2) (Nat.le_refl _) ?_
       intro v4 w4 ho5 hg4
       rw [Nat.zero_add, List.nil_append] at ho5
       obtain ⟨A5, c5, rfl⟩ := ownsRow_form ho5
       have hb5 : Below w3.heap.size w3 w4 := bl_grown (Below.refl _ _) hg4 (by intro k hk; simp [Act.eval, Value.ownBlock] at hk)
       have hs5 := hb5.size
       clear hg4 tok3 _t
       replace ho5 := hide ho5)
    | (at_builtin
       refine wpList_app _ rfl (.tmp 64) (.tmp 65) 23 rfl w3.heap.size 41 i0 _ 2 16 Try.underlying23 hi0 hz0 hz1 hz2 rfl (Nat.succ_pos _) _ a.length sA rfl (unhide ho5) A2 b.length c2 sB rfl (unhide lb) (unhide sb _ (bl_call (unhide hbw3) hb5)) (unhide ob) (unhide b3) (unhide b4) hs5 ?_
       intro v5 w5 ho7 hg5
       obtain ⟨A7, c7, rfl⟩ := ownsRow_form ho7
       have hb7 : Below w3.heap.size w3 w5 := bl_grown hb5 hg5 (own_base (unhide ho5))
       have hz := unhide hba w3 _ _ _ _ (unhide hbw3) ho7
       clear hg5 hb5 hs5
       replace ho7 := hide ho7; replace hz := hide hz
       have tok2 : True := trivial)
    | (go_at_call 17
       refine (same_any _ _ _ _ _ _ r r _ ((unhide hy4).grow (bl_call hb7 hb6)) (unhide hy6) (Nat.le_refl _) (Nat.le_refl _)).mono ?_
       rintro e w7 ⟨rfl, hb8⟩
       rw [decide_eq_true rfl]
       have hbw7 : Below w.heap.size w w7 := bl_call (bl_call (bl_call (unhide hbw3) hb7) hb6) hb8
       have hx7 := (unhide hx3).grow (bl_call (bl_call (bl_call hb4 hb7) hb6) hb8)
       have hcl7 := (hbw7.cell (p := ⟨b0, o0 + at_.toNat, none⟩) p2).trans hcl
       clear hb3 hb4 hb6 hb7 hb8 hz ho3 ho4 ho5 ho6 ho7 hy4 hy6 hx3 hcl hbw3
       replace hbw7 := hide hbw7; replace hx7 := hide hx7)
    | fail)
  clear hA hX hY sa sb la lb oa ob b1 b2 b3 b4 hba hl
  have hL := fun p b W => Learn_any p b W
  replace hL := hide hL
  go_loopw [16, 85] (fun q i wr => ∃ (k : Nat) (z : Int), k ≤ a.length ∧ i = .int .i64 k ∧ q = .int .i64 z ∧ Hid (z = oneF at_ x0 (a.take k)) ∧ Hid (Below w7.heap.size w7 wr)) (fun _ i _ => a.length - (intOf i).toNat)
  case atStart => exact ⟨0, x0, Nat.zero_le _, rfl, rfl, hide rfl, hide (by (repeat (first | with_reducible exact Below.refl _ _ | with_reducible assumption | with_reducible refine Below.drew ?_ | with_reducible refine bl_alloc ?_ _ | with_reducible refine bl_call ?_ (by assumption) | (focus (with_reducible refine Below.setCell ?_ ?_ _; rotate_left; focus (first | omega | (simp <;> omega)))) | fail)))⟩
  case round =>
    obtain ⟨k, z, hk, rfl, rfl, hz', hb⟩ := hrel
    by_cases hlt : k < a.length
    · obtain ⟨b1, o1, rfl, t1, t2, c10, c11⟩ := unhide hc1 k hlt
      have hbwr := bl_call (unhide hbw7) (unhide hb)
      have d0 := (hbwr.cell (p := ⟨b1, o1 + k * 2, none⟩) t2).trans c10
      have d1 := (hbwr.cell (p := ⟨b1, o1 + k * 2 + 1, none⟩) t2).trans c11
      have hs := unhide hsn k hlt
      rw [← unhide hz'] at hs
      have hc := unhide hpk k
      rw [← unhide hz'] at hc
      generalize a[k] = t at *
      obtain ⟨ta, tb⟩ := t
      dsimp only at d0 d1 hs
      have hLq := fun W => unhide hL z tb W
      rw [hc, badE_t, show lrnR z tb = lrn z tb by rw [lrnR, if_pos hc]] at hLq
      clear c10 c11 t1 t2 hc hbwr
      replace hLq := hide hLq
      have hb0 := unhide hb
      have hz0 := hb0.size
      by_cases he : ta = at_
      · rw [if_pos he] at hs
        have he' : (ta == at_) = true := by simpa using he
        clear he
        replace hs := hide hs
        go_wp2_with (go_at_call 9; refine (unhide hLq _).mono ?_; rintro e w8 ⟨rfl, rfl⟩)
        go_roundw
        case rel => exact ⟨k + 1, _, by omega, by go_num, rfl, hide (unhide hs).symm, hide (by (repeat (first | with_reducible exact Below.refl _ _ | with_reducible assumption | with_reducible refine Below.drew ?_ | with_reducible refine bl_alloc ?_ _ | with_reducible refine bl_call ?_ (by assumption) | (focus (with_reducible refine Below.setCell ?_ ?_ _; rotate_left; focus (first | omega | (simp <;> omega)))) | fail)))⟩
        case measure => simp [intOf]; omega
      · rw [if_neg he] at hs
        have he' : (ta == at_) = false := by simpa using he
        clear he
        replace hs := hide hs
        go_wp2_with fail
        go_roundw
        case rel => exact ⟨k + 1, _, by omega, by go_num, rfl, hide (unhide hs).symm, hide (by (repeat (first | with_reducible exact Below.refl _ _ | with_reducible assumption | with_reducible refine Below.drew ?_ | with_reducible refine bl_alloc ?_ _ | with_reducible refine bl_call ?_ (by assumption) | (focus (with_reducible refine Below.setCell ?_ ?_ _; rotate_left; focus (first | omega | (simp <;> omega)))) | fail)))⟩
        case measure => simp [intOf]; omega
    · obtain rfl : k = a.length := by omega
      have hz2 := unhide hz'
      rw [List.take_length, ← unhide hxa] at hz2
      subst hz2
      have hxr := (unhide hx7).grow (unhide hb)
      obtain ⟨A9, c9, e9, _, _, hx9⟩ := Is.open hxr
      injection e9 with e9 _ _
      have hxl' := unhide hxl
      obtain ⟨b9, o9, rfl, r1, r2, r3⟩ := hx9 at_.toNat (by omega)
      subst e9
      rw [show x[at_.toNat]'(by omega) = x.getD at_.toNat 0 by rw [List.getD_eq_getElem?_getD, List.getElem?_eq_getElem (by omega)]; rfl] at r3
      generalize x.getD at_.toNat 0 = p at *
      clear hxr hx9 hxl' hxa
      go_wp2_with fail
      go_ret
      exact ⟨rfl, bl_call (unhide hbw7) (unhide hb)⟩
end Go.Proofs.Ytbonnlaplggjgaa
