import Derived.Test.YthkccpemgmpadaaGreatDoorU15
namespace Go.Proofs.YthkccpemgmpadaaGreatDoor.P.M
set_option maxRecDepth 100000
open Go.RowKit
set_option maxHeartbeats 2000000 in
theorem rtell_any (base : Nat) (A : Option Addr) (n c : Nat) (l : List UInt8) (t : Tok) (w : World) (h : w.ownsRow base 5 1 (.slice A n c) n (l.map u8v)) (hb : base ≤ w.heap.size) (hok : okT t = true) (hd : t.dist ≤ n) (hn : n ≤ 2000000) :
    Calls Tryz.prog 83 #[.slice A n c, tkV t] w fun e w' => ∃ A' n' c', e = .returned (.slice A' n' c') ∧ (n' : Int) = n + sizeT t ∧ w'.ownsRow base 5 1 (.slice A' n' c') n' ((tellT l t).map u8v) ∧ Below base w w' := by
  obtain ⟨i0, hi0, iz0, iz1, iz2⟩ := info_parts info5
  have hbl := fun (x : List UInt8) W (m : Nat) (a : Option Addr) (d : Nat) (k : World.ownsRow W base 5 1 (.slice a m d) m (x.map u8v)) => (Bs.own k).open
  by_cases h0 : t.len = 0
  · have ht : tellT l t = l ++ [t.lit] := by simp [tellT, h0]
    have hs : sizeT t = 1 := by simp [sizeT, h0]
    rw [ht, hs]
    obtain ⟨o, tl, td⟩ := t
    simp only [] at h0
    subst h0
    have hto := o_one o
    have hfl := map_snoc l o
    have b1 : n + 1 ≤ maxLen := by simp only [maxLen]; omega
    have b2 : (n + 1) * 1 ≤ 140737488355328 := by omega
    clear ht hs hok hd hbl
    replace h := hide h; replace hto := hide hto; replace hfl := hide hfl; replace b1 := hide b1; replace b2 := hide b2; replace hb := hide hb
    go_enter Tryz.func83, Tryz.ntmps83
    go_wp2_with (first
      | (at_builtin
         refine wpList_app _ rfl (.tmp 8) (.tmp 11) 29 rfl base 5 i0 _ 1 1 Tryz.underlying29 hi0 iz0 iz1 iz2 rfl (Nat.succ_pos _) _ n (l.map u8v) rfl (((unhide h).alloc _).alloc _) (some ⟨w.heap.size + 1, 0, none⟩) 1 1 [.int .u8 (n8 o)] rfl rfl (o_src (by (repeat (first | with_reducible assumption | (focus (with_reducible refine Blk.new ?_; focus (simp <;> fail))) | with_reducible refine Blk.set3 (a := .int .u8 0) (b := .int .i64 0) (c := .int .i64 0) ?_ | with_reducible refine Blk.alloc ?_ _ | with_reducible refine Blk.drew ?_ | (focus (with_reducible refine Blk.far ?_ ?_ _; rotate_left; focus (first | omega | (simp <;> omega)))) | (focus (with_reducible refine Blk.below ?_ hb1 ?_; rotate_left; focus (first | omega | (simp <;> omega)))) | (focus (with_reducible refine Blk.below ?_ hb2 ?_; rotate_left; focus (first | omega | (simp <;> omega)))) | (focus (with_reducible refine Blk.below ?_ hb3 ?_; rotate_left; focus (first | omega | (simp <;> omega)))) | (focus (with_reducible refine Blk.below ?_ hb4 ?_; rotate_left; focus (first | omega | (simp <;> omega)))) | (focus (with_reducible refine Blk.below ?_ hb5 ?_; rotate_left; focus (first | omega | (simp <;> omega)))) | (focus (with_reducible refine Blk.below ?_ hb6 ?_; rotate_left; focus (first | omega | (simp <;> omega)))) | (focus (with_reducible refine Blk.below ?_ hb7 ?_; rotate_left; focus (first | omega | (simp <;> omega)))) | (focus (with_reducible refine Blk.below ?_ hb8 ?_; rotate_left; focus (first | omega | (simp <;> omega)))) | (focus (with_reducible refine Blk.below ?_ hb9 ?_; rotate_left; focus (first | omega | (simp <;> omega)))) | (focus (with_reducible refine Blk.below ?_ hb10 ?_; rotate_left; focus (first | omega | (simp <;> omega)))) | (focus (with_reducible refine Blk.below ?_ hb11 ?_; rotate_left; focus (first | omega | (simp <;> omega)))) | (focus (with_reducible refine Blk.below ?_ hb12 ?_; rotate_left; focus (first | omega | (simp <;> omega)))) | fail)))) (unhide hto) (unhide b1) (unhide b2) (by have := unhide hb; simp; omega) ?_
         intro v2 w2 hown2 hg2
         obtain ⟨A2, c2, rfl⟩ := ownsRow_form hown2
         rw [unhide hfl] at hown2)
      | fail)
    go_ret
    refine ⟨A2, n + 1, c2, rfl, by simp, hown2, ?_⟩
    exact (bb_alloc (bb_alloc (Below.refl _ _) (unhide hb) _) (unhide hb) _).grown hg2 (by have := unhide hb; simp; omega) (own_base (unhide h))
  · obtain ⟨k0, k1, k2, k3, k4⟩ := okT_len hok h0
    have ht : tellT l t = tellN l t.dist.toNat t.len.toNat := by simp [tellT, h0]
    have hs : sizeT t = t.len := by simp [sizeT, h0]
    rw [ht, hs]
    have hll : l.length = n := by have := ownsRow_len h; simpa using this
    obtain ⟨o, L, d⟩ := t
    simp only [] at h0 k0 k1 k2 k3 k4 hd
    have hL0 : (L == 0) = false := by simpa using h0
    clear ht hs hok k0 h0
    replace h := hide h; replace hbl := hide hbl; replace hll := hide hll
    go_enter Tryz.func83, Tryz.ntmps83
    go_wp2_with fail
    go_loopw [0, 15] (fun s0 i wr => ∃ (K : Int) (m : Nat) (A2 : Option Addr) (c2 : Nat), 0 ≤ K ∧ K ≤ L ∧ i = .int .i64 K ∧ s0 = .slice A2 m c2 ∧ (m : Int) = n + K ∧ Hid (wr.ownsRow base 5 1 (.slice A2 m c2) m ((tellN l d.toNat K.toNat).map u8v)) ∧ Hid (Below base w wr) ∧ Hid (Blk wr w.heap.size 79 #[.int .u8 (n8 o), .int .i64 L, .int .i64 d])) (fun _ i _ => 18 - (intOf i).toNat)
    case atStart => exact ⟨0, n, A, c, by omega, by omega, rfl, rfl, by omega, hide ((unhide h).alloc _), hide (bb_alloc (Below.refl _ _) hb _), hide (by (repeat (first | with_reducible assumption | (focus (with_reducible refine Blk.new ?_; focus (simp <;> fail))) | with_reducible refine Blk.set3 (a := .int .u8 0) (b := .int .i64 0) (c := .int .i64 0) ?_ | with_reducible refine Blk.alloc ?_ _ | with_reducible refine Blk.drew ?_ | (focus (with_reducible refine Blk.far ?_ ?_ _; rotate_left; focus (first | omega | (simp <;> omega)))) | (focus (with_reducible refine Blk.below ?_ hb1 ?_; rotate_left; focus (first | omega | (simp <;> omega)))) | (focus (with_reducible refine Blk.below ?_ hb2 ?_; rotate_left; focus (first | omega | (simp <;> omega)))) | (focus (with_reducible refine Blk.below ?_ hb3 ?_; rotate_left; focus (first | omega | (simp <;> omega)))) | (focus (with_reducible refine Blk.below ?_ hb4 ?_; rotate_left; focus (first | omega | (simp <;> omega)))) | (focus (with_reducible refine Blk.below ?_ hb5 ?_; rotate_left; focus (first | omega | (simp <;> omega)))) | (focus (with_reducible refine Blk.below ?_ hb6 ?_; rotate_left; focus (first | omega | (simp <;> omega)))) | (focus (with_reducible refine Blk.below ?_ hb7 ?_; rotate_left; focus (first | omega | (simp <;> omega)))) | (focus (with_reducible refine Blk.below ?_ hb8 ?_; rotate_left; focus (first | omega | (simp <;> omega)))) | (focus (with_reducible refine Blk.below ?_ hb9 ?_; rotate_left; focus (first | omega | (simp <;> omega)))) | (focus (with_reducible refine Blk.below ?_ hb10 ?_; rotate_left; focus (first | omega | (simp <;> omega)))) | (focus (with_reducible refine Blk.below ?_ hb11 ?_; rotate_left; focus (first | omega | (simp <;> omega)))) | (focus (with_reducible refine Blk.below ?_ hb12 ?_; rotate_left; focus (first | omega | (simp <;> omega)))) | fail)))⟩
    case round =>
      obtain ⟨K, m, A2, c2, j0, j1, rfl, rfl, hm, ho, hbw, hB⟩ := hrel
      have q1 := (unhide hB).cell 1
      have q2 := (unhide hB).cell 2
      simp at q1 q2
      have y0 : w.heap.size < wr.heap.size := (unhide hB).lt
      by_cases hlt : K < L
      · have hlen : (tellN l d.toNat K.toNat).length = m := by rw [tellN_len]; have := unhide hll; omega
        obtain ⟨A3, c3, e3, x1, x2, x3⟩ := unhide hbl _ wr _ _ _ (unhide ho)
        injection e3 with e4 e6 e5
        clear e6
        subst e4 e5
        rw [hlen] at x1
        obtain ⟨g, off, rfl, g1, g2, g3⟩ := x3 (m - d.toNat) (by omega)
        have hnx : tellN l d.toNat (K + 1).toNat = tellN l d.toNat K.toNat ++ [(tellN l d.toNat K.toNat).getD (m - d.toNat) 0] := by
          rw [show (K + 1).toNat = K.toNat + 1 by omega, tellN, hlen]
        generalize (tellN l d.toNat K.toNat).getD (m - d.toNat) 0 = x at *
        generalize tellN l d.toNat K.toNat = T at *
        have hto := o_one x
        have hfl := map_snoc T x
        rw [← hnx] at hfl
        have b1 : m + 1 ≤ maxLen := by simp only [maxLen]; omega
        have b2 : (m + 1) * 1 ≤ 140737488355328 := by omega
        have hbs := (unhide hbw).size
        have bb : base ≤ wr.heap.size := by omega
        have hm1 : ((m + 1 : Nat) : Int) = (n : Int) + (K + 1) := by omega
        have e1 : m - d.toNat = ((m : Int) - d).toNat := by omega
        rw [e1] at g3
        have i1 : IntKind.i64.wrap ((m : Int) - d) = (m : Int) - d := IntWalk.i64_in _ (by omega)
        have i2 : (0 : Int) ≤ (m : Int) - d := by omega
        have i3 : (m : Int) - d < m := by omega
        have i4 : d ≤ (m : Int) := by omega
        have i5 : IntKind.i64.wrap (K + 1) = K + 1 := IntWalk.i64_in _ (by omega)
        replace hto := hide hto; replace hfl := hide hfl; replace b1 := hide b1; replace b2 := hide b2; replace bb := hide bb; replace hm1 := hide hm1
        clear hnx hlen x3 x1 e1
        replace hm := hide hm
        go_wp2_with (first
          | (at_builtin
             refine wpList_app _ rfl (.tmp 17) (.tmp 26) 29 rfl base 5 i0 _ 1 1 Tryz.underlying29 hi0 iz0 iz1 iz2 rfl (Nat.succ_pos _) _ m (T.map u8v) rfl ((unhide ho).alloc _) (some ⟨wr.heap.size, 0, none⟩) 1 1 [.int .u8 (n8 x)] rfl rfl (o_src (by (repeat (first | with_reducible assumption | (focus (with_reducible refine Blk.new ?_; focus (simp <;> fail))) | with_reducible refine Blk.set3 (a := .int .u8 0) (b := .int .i64 0) (c := .int .i64 0) ?_ | with_reducible refine Blk.alloc ?_ _ | with_reducible refine Blk.drew ?_ | (focus (with_reducible refine Blk.far ?_ ?_ _; rotate_left; focus (first | omega | (simp <;> omega)))) | (focus (with_reducible refine Blk.below ?_ hb1 ?_; rotate_left; focus (first | omega | (simp <;> omega)))) | (focus (with_reducible refine Blk.below ?_ hb2 ?_; rotate_left; focus (first | omega | (simp <;> omega)))) | (focus (with_reducible refine Blk.below ?_ hb3 ?_; rotate_left; focus (first | omega | (simp <;> omega)))) | (focus (with_reducible refine Blk.below ?_ hb4 ?_; rotate_left; focus (first | omega | (simp <;> omega)))) | (focus (with_reducible refine Blk.below ?_ hb5 ?_; rotate_left; focus (first | omega | (simp <;> omega)))) | (focus (with_reducible refine Blk.below ?_ hb6 ?_; rotate_left; focus (first | omega | (simp <;> omega)))) | (focus (with_reducible refine Blk.below ?_ hb7 ?_; rotate_left; focus (first | omega | (simp <;> omega)))) | (focus (with_reducible refine Blk.below ?_ hb8 ?_; rotate_left; focus (first | omega | (simp <;> omega)))) | (focus (with_reducible refine Blk.below ?_ hb9 ?_; rotate_left; focus (first | omega | (simp <;> omega)))) | (focus (with_reducible refine Blk.below ?_ hb10 ?_; rotate_left; focus (first | omega | (simp <;> omega)))) | (focus (with_reducible refine Blk.below ?_ hb11 ?_; rotate_left; focus (first | omega | (simp <;> omega)))) | (focus (with_reducible refine Blk.below ?_ hb12 ?_; rotate_left; focus (first | omega | (simp <;> omega)))) | fail)))) (unhide hto) (unhide b1) (unhide b2) (by have := unhide bb; simp; omega) ?_
             intro v2 w2 hown2 hg2
             obtain ⟨A4, c4, rfl⟩ := ownsRow_form hown2
             rw [unhide hfl] at hown2)
          | fail)
        clear i1 i5
        go_roundw
        case rel =>
          refine ⟨K + 1, m + 1, A4, c4, by omega, by omega, rfl, rfl, unhide hm1, hide hown2, hide ?_, hide ?_⟩
          · exact (bb_alloc (unhide hbw) hb _).grown hg2 (by have := unhide bb; simp; omega) (own_base (unhide ho))
          · exact Blk.grown ((unhide hB).alloc _) hg2 (own_ne (unhide ho) (unhide hB) (by decide))
        case measure => simp [intOf]; omega
      · obtain rfl : K = L := by omega
        replace hm := hide hm
        go_wp2_with fail
        go_ret
        exact ⟨A2, m, c2, rfl, unhide hm, unhide ho, unhide hbw⟩
theorem one_at (t : Tok) (s : Int) (hs : 0 ≤ s) (w : World) :
    Calls Tryz.prog 125 #[tkV t, .int .i64 s] w fun e w' => e = .returned (.bool (okT t && decide (t.dist ≤ s))) ∧ Below w.heap.size w w' := by
  obtain ⟨m, rfl⟩ : ∃ m : Nat, s = m := ⟨s.toNat, by omega⟩
  exact one_any t m w
theorem okT_len0 {t : Tok} (h : okT t = true) : 0 ≤ t.len := by
  by_cases h0 : t.len = 0
  · omega
  · have := okT_len h h0; omega
set_option maxHeartbeats 2000000 in
theorem rCheck_any (lo : Nat) (v : Value) (l : List Tok) (w : World) (h : Tks lo w.heap.size w v l) :
    Calls Tryz.prog 99 #[v] w fun e w' => e = .returned (.int .i64 (badE (okB l))) ∧ Below w.heap.size w w' := by
  obtain ⟨A, c, rfl, h1, h2, h3⟩ := h.open
  clear h
  by_cases hl : l.length ≤ 65536
  · have hk : okB l = okL 0 l := by simp [okB, hl]
    replace hk := hide hk; replace h3 := hide h3
    go_enter Tryz.func99, Tryz.ntmps99
    go_wp2
    go_loopw [3, 11] (fun sm i wr => ∃ (k : Nat) (s : Int), k ≤ l.length ∧ i = .int .i64 k ∧ sm = .int .i64 s ∧ 0 ≤ s ∧ s ≤ 18 * k ∧ Hid (s = sumT (l.take k)) ∧ Hid (okL 0 l = okL s (l.drop k)) ∧ Hid (Below w.heap.size w wr)) (fun _ i _ => l.length - (intOf i).toNat)
    case atStart => exact ⟨0, 0, Nat.zero_le _, rfl, rfl, by omega, by omega, hide (by simp [sumT]), hide (by simp), hide (by (repeat (first | with_reducible exact Below.refl _ _ | with_reducible assumption | with_reducible refine Below.drew ?_ | with_reducible refine bl_alloc ?_ _ | with_reducible refine bl_call ?_ (by assumption) | (focus (with_reducible refine Below.setCell ?_ ?_ _; rotate_left; focus (first | omega | (simp <;> omega)))) | fail)))⟩
    case round =>
      obtain ⟨k, s, hk', rfl, rfl, hs0, hs1, hs, hw, hb⟩ := hrel
      by_cases hlt : k < l.length
      · obtain ⟨b, off, rfl, g1, g2, q0, q1, q2⟩ := unhide h3 k hlt
        have c0 := ((unhide hb).cell (p := ⟨b, off + k * 3, none⟩) g2).trans q0
        have c1 := ((unhide hb).cell (p := ⟨b, off + k * 3 + 1, none⟩) g2).trans q1
        have c2 := ((unhide hb).cell (p := ⟨b, off + k * 3 + 2, none⟩) g2).trans q2
        have e1 : Hid (okT l[k] = true → l[k].dist ≤ s → sumT (l.take (k + 1)) = s + sizeT l[k] ∧ okL 0 l = okL (s + sizeT l[k]) (l.drop (k + 1)) ∧ 1 ≤ sizeT l[k] ∧ sizeT l[k] ≤ 18) := hide fun x y => by
          have z1 := unhide hs
          have z2 := unhide hw
          have z3 := sumT_snoc hlt
          subst z1
          exact ⟨z3, by rw [← z3]; exact okL_at hlt z2 x y, okT_size x⟩
        have e2 : Hid (¬ (okT l[k] = true ∧ l[k].dist ≤ s) → okL 0 l = false) := hide fun x => by
          have z1 := unhide hs
          have z2 := unhide hw
          subst z1
          exact okL_not hlt z2 x
        clear q0 q1 q2 g1 g2
        generalize l[k] = t at *
        have ht := fun W => one_at t s hs0 W
        unfold tkV at ht
        cases ho : (okT t && decide (t.dist ≤ s)) with
        | true =>
          have ho' : okT t = true ∧ t.dist ≤ s := by simpa using ho
          obtain ⟨x1, x2, x3, x4⟩ := unhide e1 ho'.1 ho'.2
          have hg := fun W => size_any t W (okT_len0 ho'.1)
          unfold tkV at hg
          rw [ho] at ht
          clear e1 e2 ho'
          replace ht := hide ht; replace hg := hide hg; replace x1 := hide x1; replace x2 := hide x2; replace ho := hide ho
          go_wp2_with (first
            | (go_at_call 125; refine (unhide ht _).mono ?_; rintro e w1 ⟨rfl, hb1⟩; obtain ⟨hc1, hf1⟩ := bcell hb1; have hz1 := hb1.size; (try simp at hz1))
            | (go_at_call 98; refine (unhide hg _).mono ?_; rintro e w2 ⟨rfl, hb2⟩; obtain ⟨hc2, hf2⟩ := bcell hb2; have hz2 := hb2.size; (try simp at hz2)))
          have hb0 := unhide hb
          go_roundw
          case rel => exact ⟨k + 1, s + sizeT t, by omega, by go_num, rfl, by omega, by omega, hide (unhide x1).symm, x2, hide (by (repeat (first | with_reducible exact Below.refl _ _ | with_reducible assumption | with_reducible refine Below.drew ?_ | with_reducible refine bl_alloc ?_ _ | with_reducible refine bl_call ?_ (by assumption) | (focus (with_reducible refine Below.setCell ?_ ?_ _; rotate_left; focus (first | omega | (simp <;> omega)))) | fail)))⟩
          case measure => simp [intOf]; omega
        | false =>
          have x := unhide e2 (by rintro ⟨a, b⟩; rw [a] at ho; simp at ho; omega)
          rw [ho] at ht
          clear e1 e2
          replace ht := hide ht; replace x := hide x; replace ho := hide ho
          go_wp2_with (go_at_call 125; refine (unhide ht _).mono ?_; rintro e w1 ⟨rfl, hb1⟩)
          have hb0 := unhide hb
          go_ret
          exact ⟨ret_i rfl (by simp [badE, unhide hk, unhide x]), by (repeat (first | with_reducible exact Below.refl _ _ | with_reducible assumption | with_reducible refine Below.drew ?_ | with_reducible refine bl_alloc ?_ _ | with_reducible refine bl_call ?_ (by assumption) | (focus (with_reducible refine Below.setCell ?_ ?_ _; rotate_left; focus (first | omega | (simp <;> omega)))) | fail))⟩
      · obtain rfl : k = l.length := by omega
        have hb0 := unhide hb
        go_wp2
        go_ret
        have z2 := unhide hw
        rw [List.drop_length] at z2
        have z3 : okB l = true := by rw [unhide hk, z2]; rfl
        exact ⟨ret_i rfl (by simp [badE, z3]), by (repeat (first | with_reducible exact Below.refl _ _ | with_reducible assumption | with_reducible refine Below.drew ?_ | with_reducible refine bl_alloc ?_ _ | with_reducible refine bl_call ?_ (by assumption) | (focus (with_reducible refine Below.setCell ?_ ?_ _; rotate_left; focus (first | omega | (simp <;> omega)))) | fail))⟩
  · have hk : okB l = false := by simp [okB, hl]
    replace hk := hide hk
    clear h3
    go_enter Tryz.func99, Tryz.ntmps99
    go_wp2
    go_ret
    exact ⟨ret_i rfl (by simp [badE, unhide hk]), by (repeat (first | with_reducible exact Below.refl _ _ | with_reducible assumption | with_reducible refine Below.drew ?_ | with_reducible refine bl_alloc ?_ _ | with_reducible refine bl_call ?_ (by assumption) | (focus (with_reducible refine Below.setCell ?_ ?_ _; rotate_left; focus (first | omega | (simp <;> omega)))) | fail))⟩
set_option maxHeartbeats 2000000 in
theorem rLong_any (lo : Nat) (v : Value) (l : List Tok) (w : World) (h : Tks lo w.heap.size w v l) :
    Calls Tryz.prog 82 #[v] w fun e w' => e = .returned (.tuple #[.int .i64 (longN l), .int .i64 (badE (okB l))]) ∧ Below w.heap.size w w' := by
  have hc := rCheck_any lo v l w h
  obtain ⟨A, c, rfl, h1, h2, h3⟩ := h.open
  clear h
  cases hok : okB l with
  | true =>
    obtain ⟨o1, o2⟩ := okB_iff.1 hok
    rw [hok] at hc
    change Calls Tryz.prog 99 #[.slice A l.length c] w fun e w' => e = .returned (.int .i64 0) ∧ Below w.heap.size w w' at hc
    have hn : longN l = sumT l := by simp [longN, hok]
    rw [hn]
    replace hc := hide hc; replace h3 := hide h3; replace hok := hide hok; replace hn := hide hn; replace o2 := hide o2
    go_enter Tryz.func82, Tryz.ntmps82
    go_wp2_with (go_at_call 99; refine (unhide hc).mono ?_; rintro e w1 ⟨rfl, hb1⟩)
    go_loopw [4, 12] (fun sm i wr => ∃ (k : Nat) (s : Int), k ≤ l.length ∧ i = .int .i64 k ∧ sm = .int .i64 s ∧ 0 ≤ s ∧ s ≤ 18 * k ∧ Hid (s = sumT (l.take k)) ∧ Hid (Below w.heap.size w wr)) (fun _ i _ => l.length - (intOf i).toNat)
    case atStart => exact ⟨0, 0, Nat.zero_le _, rfl, rfl, by omega, by omega, hide (by simp [sumT]), hide (by (repeat (first | with_reducible exact Below.refl _ _ | with_reducible assumption | with_reducible refine Below.drew ?_ | with_reducible refine bl_alloc ?_ _ | with_reducible refine bl_call ?_ (by assumption) | (focus (with_reducible refine Below.setCell ?_ ?_ _; rotate_left; focus (first | omega | (simp <;> omega)))) | fail)))⟩
    case round =>
      obtain ⟨k, s, hk', rfl, rfl, hs0, hs1, hs, hb⟩ := hrel
      by_cases hlt : k < l.length
      · obtain ⟨b, off, rfl, g1, g2, q0, q1, q2⟩ := unhide h3 k hlt
        have c0 := ((unhide hb).cell (p := ⟨b, off + k * 3, none⟩) g2).trans q0
        have c1 := ((unhide hb).cell (p := ⟨b, off + k * 3 + 1, none⟩) g2).trans q1
        have c2 := ((unhide hb).cell (p := ⟨b, off + k * 3 + 2, none⟩) g2).trans q2
        obtain ⟨t1, _⟩ := okL_get hlt (unhide o2)
        have x3 := okT_size t1
        have x1 := sumT_snoc hlt
        rw [← unhide hs] at x1
        have hg := fun W => size_any l[k] W (okT_len0 t1)
        unfold tkV at hg
        clear q0 q1 q2 g1 g2 t1
        generalize l[k] = t at *
        obtain ⟨x4, x5⟩ := x3
        replace hg := hide hg; replace x1 := hide x1
        go_wp2_with (go_at_call 98; refine (unhide hg _).mono ?_; rintro e w2 ⟨rfl, hb2⟩)
        have hb0 := unhide hb
        go_roundw
        case rel => exact ⟨k + 1, s + sizeT t, by omega, by go_num, rfl, by omega, by omega, hide (unhide x1).symm, hide (by (repeat (first | with_reducible exact Below.refl _ _ | with_reducible assumption | with_reducible refine Below.drew ?_ | with_reducible refine bl_alloc ?_ _ | with_reducible refine bl_call ?_ (by assumption) | (focus (with_reducible refine Below.setCell ?_ ?_ _; rotate_left; focus (first | omega | (simp <;> omega)))) | fail)))⟩
        case measure => simp [intOf]; omega
      · obtain rfl : k = l.length := by omega
        have hb0 := unhide hb
        go_wp2
        go_ret2
        have z1 := unhide hs
        rw [List.take_length] at z1
        exact ⟨ret_ii rfl rfl z1 (by simp [badE]), by (repeat (first | with_reducible exact Below.refl _ _ | with_reducible assumption | with_reducible refine Below.drew ?_ | with_reducible refine bl_alloc ?_ _ | with_reducible refine bl_call ?_ (by assumption) | (focus (with_reducible refine Below.setCell ?_ ?_ _; rotate_left; focus (first | omega | (simp <;> omega)))) | fail))⟩
  | false =>
    rw [hok] at hc
    change Calls Tryz.prog 99 #[.slice A l.length c] w fun e w' => e = .returned (.int .i64 1) ∧ Below w.heap.size w w' at hc
    have hn : longN l = 0 := by simp [longN, hok]
    rw [hn]
    replace hc := hide hc; replace h3 := hide h3; replace hok := hide hok; replace hn := hide hn
    go_enter Tryz.func82, Tryz.ntmps82
    go_wp2_with (go_at_call 99; refine (unhide hc).mono ?_; rintro e w1 ⟨rfl, hb1⟩)
    go_ret2
    exact ⟨rfl, hb1⟩
set_option maxHeartbeats 4000000 in
theorem rText_any (lo : Nat) (v : Value) (l : List Tok) (most : Int) (bs : List UInt8) (er : Int) (w : World) (h : Tks lo w.heap.size w v l) (hr : textR l most = (bs, er)) :
    Calls Tryz.prog 53 #[v, .int .i64 most] w fun e w' => ∃ A n c, e = .returned (.tuple #[.slice A n c, .int .i64 er]) ∧ w'.ownsRow w.heap.size 5 1 (.slice A n c) n (bs.map u8v) ∧ Below w.heap.size w w' := by
  have hlg := rLong_any lo v l w h
  obtain ⟨A, c, rfl, h1, h2, h3⟩ := h.open
  clear h
  cases hok : okB l with
  | false =>
    rw [textR, if_pos hok] at hr
    injection hr with r1 r2
    subst r1 r2
    rw [hok] at hlg
    change Calls Tryz.prog 82 #[.slice A l.length c] w fun e w' => e = .returned (.tuple #[.int .i64 (longN l), .int .i64 1]) ∧ Below w.heap.size w w' at hlg
    replace hlg := hide hlg; replace hok := hide hok; replace h3 := hide h3
    go_enter Tryz.func53, Tryz.ntmps53
    go_wp2_with (go_at_call 82; refine (unhide hlg).mono ?_; rintro e w1 ⟨rfl, hb1⟩)
    go_ret2
    exact ⟨none, 0, 0, rfl, World.ownsRow_nil _ _ _ _, hb1⟩
  | true =>
    rw [textR, if_neg (by rw [hok]; decide)] at hr
    obtain ⟨o1, o2⟩ := okB_iff.1 hok
    have hs := okL_sum o2
    have hln : longN l = sumT l := by simp [longN, hok]
    rw [hok, hln] at hlg
    change Calls Tryz.prog 82 #[.slice A l.length c] w fun e w' => e = .returned (.tuple #[.int .i64 (sumT l), .int .i64 0]) ∧ Below w.heap.size w w' at hlg
    have htl : textF [] (l.take l.length) = textF [] l := by rw [List.take_length]
    generalize hS : sumT l = S at *
    obtain ⟨s1, s2⟩ := hs
    by_cases hm : most < 0
    · rw [if_pos hm] at hr
      injection hr with r1 r2
      subst r1 r2
      replace hlg := hide hlg; replace hok := hide hok; replace h3 := hide h3; replace hS := hide hS; replace htl := hide htl
      go_enter Tryz.func53, Tryz.ntmps53
      go_wp2_with (go_at_call 82; refine (unhide hlg).mono ?_; rintro e w1 ⟨rfl, hb1⟩)
      go_ret2
      exact ⟨none, 0, 0, rfl, World.ownsRow_nil _ _ _ _, hb1⟩
    · rw [if_neg hm] at hr
      by_cases hc : S ≤ most ∧ S ≤ 65536
      · rw [if_pos hc] at hr
        injection hr with r1 r2
        subst r1 r2
        obtain ⟨c1, c2⟩ := hc
        replace o2 := hide o2
        replace hlg := hide hlg; replace hok := hide hok; replace h3 := hide h3; replace hS := hide hS; replace htl := hide htl
        clear hln
        have g1 : ¬ most < S := by omega
        have g2 : ¬ 65536 < S := by omega
        go_enter Tryz.func53, Tryz.ntmps53
        go_wp2_with (go_at_call 82; refine (unhide hlg).mono ?_; rintro e w1 ⟨rfl, hb1⟩)
        go_loopw [8, 31] (fun s8 i wr => ∃ (k m : Nat) (A2 : Option Addr) (c2 : Nat), k ≤ l.length ∧ i = .int .i64 k ∧ s8 = .slice A2 m c2 ∧ Hid ((m : Int) = sumT (l.take k)) ∧ m ≤ 18 * k ∧ Hid (wr.ownsRow w.heap.size 5 1 (.slice A2 m c2) m ((textF [] (l.take k)).map u8v)) ∧ Hid (Below w.heap.size w wr)) (fun _ i _ => l.length - (intOf i).toNat)
        case atStart => exact ⟨0, 0, _, _, Nat.zero_le _, rfl, rfl, hide rfl, Nat.le_refl _, hide (World.ownsRow_nil _ _ _ _), hide (by (repeat (first | with_reducible exact Below.refl _ _ | with_reducible assumption | with_reducible refine Below.drew ?_ | with_reducible refine bl_alloc ?_ _ | with_reducible refine bl_call ?_ (by assumption) | (focus (with_reducible refine Below.setCell ?_ ?_ _; rotate_left; focus (first | omega | (simp <;> omega)))) | fail)))⟩
        case round =>
          obtain ⟨k, m, A2, c2, hk, rfl, rfl, hm1, hm2, ho, hb⟩ := hrel
          by_cases hlt : k < l.length
          · obtain ⟨b, off, rfl, x1, x2, q0, q1, q2⟩ := unhide h3 k hlt
            have c0 := ((unhide hb).cell (p := ⟨b, off + k * 3, none⟩) x2).trans q0
            have c1 := ((unhide hb).cell (p := ⟨b, off + k * 3 + 1, none⟩) x2).trans q1
            have c2' := ((unhide hb).cell (p := ⟨b, off + k * 3 + 2, none⟩) x2).trans q2
            obtain ⟨t1, t2⟩ := okL_get hlt (unhide o2)
            have t3 := okT_size t1
            have hsn := sumT_snoc hlt
            have htx := textF_snoc (b := []) hlt
            have hbs := (unhide hb).size
            rw [Int.zero_add, ← unhide hm1] at t2
            rw [← unhide hm1] at hsn
            have htell := fun W (hbb : Below wr.heap.size wr W) => rtell_any w.heap.size A2 m c2 (textF [] (l.take k)) l[k] W (own_below (unhide ho) hbb (Nat.le_refl _)) (Nat.le_trans hbs hbb.size) t1 t2 (by omega)
            rw [← htx] at htell
            unfold tkV at htell
            generalize l[k] = t at *
            clear q0 q1 q2 x1 x2 htx t1 t2
            replace htell := hide htell; replace hsn := hide hsn; replace hbs := hide hbs
            go_wp2_with (go_at_call 83; refine (unhide htell _ (by (repeat (first | with_reducible exact Below.refl _ _ | with_reducible assumption | with_reducible refine Below.drew ?_ | with_reducible refine bl_alloc ?_ _ | with_reducible refine bl_call ?_ (by assumption) | (focus (with_reducible refine Below.setCell ?_ ?_ _; rotate_left; focus (first | omega | (simp <;> omega)))) | fail)))).mono ?_; rintro e w2 ⟨A3, n3, c3, rfl, hn3, ho3, hb3⟩; replace hn3 := hide hn3; replace ho3 := hide ho3)
            go_roundw
            case rel => exact ⟨k + 1, n3, A3, c3, by omega, by go_num, rfl, hide (by rw [unhide hsn]; exact unhide hn3), by have := unhide hn3; omega, hide (unhide ho3), hide (((unhide hb).alloc (unhide hbs) _).trans hb3)⟩
            case measure => simp [intOf]; omega
          · obtain rfl : k = l.length := by omega
            go_wp2_with fail
            go_ret2
            have ho' := unhide ho
            rw [unhide htl] at ho'
            exact ⟨A2, m, c2, rfl, ho', unhide hb⟩
      · rw [if_neg hc] at hr
        injection hr with r1 r2
        subst r1 r2
        replace hlg := hide hlg; replace hok := hide hok; replace h3 := hide h3; replace hS := hide hS; replace htl := hide htl
        have hd : (decide (most < S) || decide (65536 < S)) = true := by simp; omega
        clear hc
        go_enter Tryz.func53, Tryz.ntmps53
        go_wp2_with (go_at_call 82; refine (unhide hlg).mono ?_; rintro e w1 ⟨rfl, hb1⟩)
        all_goals go_ret2
        all_goals exact ⟨none, 0, 0, rfl, World.ownsRow_nil _ _ _ _, hb1⟩
end Go.Proofs.YthkccpemgmpadaaGreatDoor.P.M
