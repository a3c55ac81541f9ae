import Derived.Test.YtiobhglhfjbcbaaW23
namespace Go.Proofs.Ytiobhglhfjbcbaa
open Go.RowKit

set_option maxHeartbeats 4000000 in
theorem rText_any (lo : Nat) (v : Value) (l : List Tok) (most : Int) (bs : List UInt8) (er : Int) (w : World) (h : Tks lo w.heap.size w v l) (hr : textR l most = (bs, er)) :
    Calls Try.prog 17 #[v, .int .i64 most] w fun e w' => ∃ A n c, e = .returned (.tuple #[.slice A n c, .int .i64 er]) ∧ w'.ownsRow w.heap.size 5 1 (.slice A n c) n (bs.map u8v) ∧ Below w.heap.size w w' := by
  have hlg := rLong_any lo v l w h
  obtain ⟨A, c, rfl, h1, h2, h3⟩ := h.open
  clear h
  cases hok : okB l with
  | false =>
    rw [textR, if_pos hok] at hr
    injection hr with r1 r2
    subst r1 r2
    rw [hok] at hlg
    change Calls Try.prog 19 #[.slice A l.length c] w fun e w' => e = .returned (.tuple #[.int .i64 (longN l), .int .i64 1]) ∧ Below w.heap.size w w' at hlg
    replace hlg := hide hlg; replace hok := hide hok; replace h3 := hide h3
    go_enter Try.func17, Try.ntmps17
    go_wp2_with (go_at_call 19; refine (unhide hlg).mono ?_; rintro e w1 ⟨rfl, hb1⟩)
    go_ret2
    exact ⟨none, 0, 0, rfl, World.ownsRow_nil _ _ _ _, hb1⟩
  | true =>
    rw [textR, if_neg (by rw [hok]; decide)] at hr
    obtain ⟨o1, o2⟩ := okB_iff.1 hok
    have hs := okL_sum o2
    have hln : longN l = sumT l := by simp [longN, hok]
    rw [hok, hln] at hlg
    change Calls Try.prog 19 #[.slice A l.length c] w fun e w' => e = .returned (.tuple #[.int .i64 (sumT l), .int .i64 0]) ∧ Below w.heap.size w w' at hlg
    have htl : textF [] (l.take l.length) = textF [] l := by rw [List.take_length]
    generalize hS : sumT l = S at *
    obtain ⟨s1, s2⟩ := hs
    by_cases hm : most < 0
    · rw [if_pos hm] at hr
      injection hr with r1 r2
      subst r1 r2
      replace hlg := hide hlg; replace hok := hide hok; replace h3 := hide h3; replace hS := hide hS; replace htl := hide htl
      go_enter Try.func17, Try.ntmps17
      go_wp2_with (go_at_call 19; refine (unhide hlg).mono ?_; rintro e w1 ⟨rfl, hb1⟩)
      go_ret2
      exact ⟨none, 0, 0, rfl, World.ownsRow_nil _ _ _ _, hb1⟩
    · rw [if_neg hm] at hr
      by_cases hc : S ≤ most ∧ S ≤ 65536
      · rw [if_pos hc] at hr
        injection hr with r1 r2
        subst r1 r2
        obtain ⟨c1, c2⟩ := hc
        replace o2 := hide o2
        replace hlg := hide hlg; replace hok := hide hok; replace h3 := hide h3; replace hS := hide hS; replace htl := hide htl
        clear hln
        have g1 : ¬ most < S := by omega
        have g2 : ¬ 65536 < S := by omega
        go_enter Try.func17, Try.ntmps17
        go_wp2_with (go_at_call 19; refine (unhide hlg).mono ?_; rintro e w1 ⟨rfl, hb1⟩)
        go_loopw [8, 31] (fun s8 i wr => ∃ (k m : Nat) (A2 : Option Addr) (c2 : Nat), k ≤ l.length ∧ i = .int .i64 k ∧ s8 = .slice A2 m c2 ∧ Hid ((m : Int) = sumT (l.take k)) ∧ m ≤ 18 * k ∧ Hid (wr.ownsRow w.heap.size 5 1 (.slice A2 m c2) m ((textF [] (l.take k)).map u8v)) ∧ Hid (Below w.heap.size w wr)) (fun _ i _ => l.length - (intOf i).toNat)
        case atStart => exact ⟨0, 0, _, _, Nat.zero_le _, rfl, rfl, hide rfl, Nat.le_refl _, hide (World.ownsRow_nil _ _ _ _), hide (by (repeat (first | with_reducible exact Below.refl _ _ | with_reducible assumption | with_reducible refine Below.drew ?_ | with_reducible refine bl_alloc ?_ _ | with_reducible refine bl_call ?_ (by assumption) | (focus (with_reducible refine Below.setCell ?_ ?_ _; rotate_left; focus (first | omega | (simp <;> omega)))) | fail)))⟩
        case round =>
          obtain ⟨k, m, A2, c2, hk, rfl, rfl, hm1, hm2, ho, hb⟩ := hrel
          by_cases hlt : k < l.length
          · obtain ⟨b, off, rfl, x1, x2, q0, q1, q2⟩ := unhide h3 k hlt
            have c0 := ((unhide hb).cell (p := ⟨b, off + k * 3, none⟩) x2).trans q0
            have c1 := ((unhide hb).cell (p := ⟨b, off + k * 3 + 1, none⟩) x2).trans q1
            have c2' := ((unhide hb).cell (p := ⟨b, off + k * 3 + 2, none⟩) x2).trans q2
            obtain ⟨t1, t2⟩ := okL_get hlt (unhide o2)
            have t3 := okT_size t1
            have hsn := sumT_snoc hlt
            have htx := textF_snoc (b := []) hlt
            have hbs := (unhide hb).size
            rw [Int.zero_add, ← unhide hm1] at t2
            rw [← unhide hm1] at hsn
            have htell := fun W (hbb : Below wr.heap.size wr W) => rtell_any w.heap.size A2 m c2 (textF [] (l.take k)) l[k] W (own_below (unhide ho) hbb (Nat.le_refl _)) (Nat.le_trans hbs hbb.size) t1 t2 (by omega)
            rw [← htx] at htell
            unfold tkV at htell
            generalize l[k] = t at *
            clear q0 q1 q2 x1 x2 htx t1 t2
            replace htell := hide htell; replace hsn := hide hsn; replace hbs := hide hbs
            go_wp2_with (go_at_call 24; refine (unhide htell _ (by (repeat (first | with_reducible exact Below.refl _ _ | with_reducible assumption | with_reducible refine Below.drew ?_ | with_reducible refine bl_alloc ?_ _ | with_reducible refine bl_call ?_ (by assumption) | (focus (with_reducible refine Below.setCell ?_ ?_ _; rotate_left; focus (first | omega | (simp <;> omega)))) | fail)))).mono ?_; rintro e w2 ⟨A3, n3, c3, rfl, hn3, ho3, hb3⟩; replace hn3 := hide hn3; replace ho3 := hide ho3)
            go_roundw
            case rel => exact ⟨k + 1, n3, A3, c3, by omega, by go_num, rfl, hide (by rw [unhide hsn]; exact unhide hn3), by have := unhide hn3; omega, hide (unhide ho3), hide (((unhide hb).alloc (unhide hbs) _).trans hb3)⟩
            case measure => simp [intOf]; omega
          · obtain rfl : k = l.length := by omega
            go_wp2_with fail
            go_ret2
            have ho' := unhide ho
            rw [unhide htl] at ho'
            exact ⟨A2, m, c2, rfl, ho', unhide hb⟩
      · rw [if_neg hc] at hr
        injection hr with r1 r2
        subst r1 r2
        replace hlg := hide hlg; replace hok := hide hok; replace h3 := hide h3; replace hS := hide hS; replace htl := hide htl
        have hd : (decide (most < S) || decide (65536 < S)) = true := by simp; omega
        clear hc
        go_enter Try.func17, Try.ntmps17
        go_wp2_with (go_at_call 19; refine (unhide hlg).mono ?_; rintro e w1 ⟨rfl, hb1⟩)
        all_goals go_ret2
        all_goals exact ⟨none, 0, 0, rfl, World.ownsRow_nil _ _ _ _, hb1⟩

theorem rText_at (v : Value) (T : List Tok) (most : Int) (bs : List UInt8) (er : Int) (hr : textR T most = (bs, er)) (lo : Nat) (W : World) (h : Tks lo W.heap.size W v T) :
    Calls Try.prog 17 #[v, .int .i64 most] W fun e w' => ∃ A c, e = .returned (.tuple #[.slice A bs.length c, .int .i64 er]) ∧ Bs 0 w'.heap.size w' (.slice A bs.length c) bs ∧ Below W.heap.size W w' :=
  (rText_any lo v T most bs er W h hr).mono fun e w' ⟨A, n, c, he, ho, hb'⟩ => by
    have hn : bs.length = n := by have := ownsRow_len ho; simpa using this
    subst hn
    exact ⟨A, c, he, (Bs.own ho).mono (Nat.zero_le _) (Nat.le_refl _), hb'⟩
end Go.Proofs.Ytiobhglhfjbcbaa
