import Derived.Test.YtiobhglhfjbcbaaW7
namespace Go.Proofs.Ytiobhglhfjbcbaa
open Go.RowKit

theorem bb_alloc {B : Nat} {a w : World} (h : Below B a w) (hB : B ≤ a.heap.size) (o : Obj) : Below B a (w.alloc o) := h.alloc (Nat.le_trans hB h.size) o
theorem bb_call {B : Nat} {a w w' : World} (h : Below B a w) (h' : Below w.heap.size w w') (hB : B ≤ a.heap.size) : Below B a w' := h.trans (h'.mono (Nat.le_trans hB h.size))
theorem o_src {w : World} {g : Nat} {x : UInt8} (h : Blk w g 5 #[.int .u8 (n8 x)]) : SrcOk w (some ⟨g, 0, none⟩) 1 [.int .u8 (n8 x)] := by
  refine fun _ => ⟨_, rfl, fun j u hu => ?_⟩
  have key : w.cell? ⟨g, j, none⟩ = some u := by
    rw [h.cell, ← hu]
    match j with
    | 0 => rfl
    | j + 1 => rfl
  unfold Addr.add
  split
  · rename_i h0; subst h0; exact key
  · rw [Nat.zero_add]; exact key
theorem o_one (x : UInt8) : ∀ u ∈ [Value.int .u8 (n8 x)], u.oneCell' = true := by
  intro u hu
  simp at hu
  subst hu
  rfl
theorem map_snoc (l : List UInt8) (x : UInt8) : l.map u8v ++ [.int .u8 (n8 x)] = (l ++ [x]).map u8v := by simp

theorem own_ne {w : World} {base : Nat} {e : TypeId} {size : Nat} {v : Value} {n : Nat} {xs : List Value} (h : w.ownsRow base e size v n xs) {g : Nat} {t : TypeId} {cs : Array Value} (hg : Blk w g t cs) (hne : e ≠ t) : some g ≠ v.ownBlock := by
  intro q
  rcases h.2 with ⟨rfl, _⟩ | ⟨g', cap, cur, rfl, _, hh, _⟩
  · cases q
  · injection q with q
    exact Blk.ne_ (t := e) (cs := cur) hh hg hne q.symm

set_option maxHeartbeats 2000000 in
theorem tell_any (base : Nat) (A : Option Addr) (n c : Nat) (l : List UInt8) (t : Tok) (w : World) (h : w.ownsRow base 5 1 (.slice A n c) n (l.map u8v)) (hb : base ≤ w.heap.size) (hok : okT t = true) (hd : t.dist ≤ n) (hn : n ≤ 2000000) :
    Calls Try.prog 27 #[.slice A n c, tkV t] w fun e w' => ∃ A' n' c', e = .returned (.slice A' n' c') ∧ (n' : Int) = n + sizeT t ∧ w'.ownsRow base 5 1 (.slice A' n' c') n' ((tellT l t).map u8v) ∧ Below base w w' := by
  obtain ⟨i0, hi0, iz0, iz1, iz2⟩ := info_parts info5
  have hbl := fun (x : List UInt8) W (m : Nat) (a : Option Addr) (d : Nat) (k : World.ownsRow W base 5 1 (.slice a m d) m (x.map u8v)) => (Bs.own k).open
  by_cases h0 : t.len = 0
  · have ht : tellT l t = l ++ [t.lit] := by simp [tellT, h0]
    have hs : sizeT t = 1 := by simp [sizeT, h0]
    rw [ht, hs]
    obtain ⟨o, tl, td⟩ := t
    simp only [] at h0
    subst h0
    have hto := o_one o
    have hfl := map_snoc l o
    have b1 : n + 1 ≤ maxLen := by simp only [maxLen]; omega
    have b2 : (n + 1) * 1 ≤ 140737488355328 := by omega
    clear ht hs hok hd hbl
    replace h := hide h; replace hto := hide hto; replace hfl := hide hfl; replace b1 := hide b1; replace b2 := hide b2; replace hb := hide hb
    go_enter Try.func27, Try.ntmps27
    go_wp2_with (first
      | (at_builtin
         refine wpList_app _ rfl (.tmp 8) (.tmp 11) 22 rfl base 5 i0 _ 1 1 Try.underlying22 hi0 iz0 iz1 iz2 rfl (Nat.succ_pos _) _ n (l.map u8v) rfl (((unhide h).alloc _).alloc _) (some ⟨w.heap.size + 1, 0, none⟩) 1 1 [.int .u8 (n8 o)] rfl rfl (o_src (by (repeat (first | with_reducible assumption | (focus (with_reducible refine Blk.new ?_; focus (simp <;> fail))) | with_reducible refine Blk.set3 (a := .int .u8 0) (b := .int .i64 0) (c := .int .i64 0) ?_ | with_reducible refine Blk.alloc ?_ _ | with_reducible refine Blk.drew ?_ | (focus (with_reducible refine Blk.far ?_ ?_ _; rotate_left; focus (first | omega | (simp <;> omega)))) | (focus (with_reducible refine Blk.below ?_ hb1 ?_; rotate_left; focus (first | omega | (simp <;> omega)))) | (focus (with_reducible refine Blk.below ?_ hb2 ?_; rotate_left; focus (first | omega | (simp <;> omega)))) | (focus (with_reducible refine Blk.below ?_ hb3 ?_; rotate_left; focus (first | omega | (simp <;> omega)))) | (focus (with_reducible refine Blk.below ?_ hb4 ?_; rotate_left; focus (first | omega | (simp <;> omega)))) | (focus (with_reducible refine Blk.below ?_ hb5 ?_; rotate_left; focus (first | omega | (simp <;> omega)))) | (focus (with_reducible refine Blk.below ?_ hb6 ?_; rotate_left; focus (first | omega | (simp <;> omega)))) | (focus (with_reducible refine Blk.below ?_ hb7 ?_; rotate_left; focus (first | omega | (simp <;> omega)))) | (focus (with_reducible refine Blk.below ?_ hb8 ?_; rotate_left; focus (first | omega | (simp <;> omega)))) | (focus (with_reducible refine Blk.below ?_ hb9 ?_; rotate_left; focus (first | omega | (simp <;> omega)))) | (focus (with_reducible refine Blk.below ?_ hb10 ?_; rotate_left; focus (first | omega | (simp <;> omega)))) | (focus (with_reducible refine Blk.below ?_ hb11 ?_; rotate_left; focus (first | omega | (simp <;> omega)))) | (focus (with_reducible refine Blk.below ?_ hb12 ?_; rotate_left; focus (first | omega | (simp <;> omega)))) | fail)))) (unhide hto) (unhide b1) (unhide b2) (by have := unhide hb; simp; omega) ?_
         intro v2 w2 hown2 hg2
         obtain ⟨A2, c2, rfl⟩ := ownsRow_form hown2
         rw [unhide hfl] at hown2)
      | fail)
    go_ret
    refine ⟨A2, n + 1, c2, rfl, by simp, hown2, ?_⟩
    exact (bb_alloc (bb_alloc (Below.refl _ _) (unhide hb) _) (unhide hb) _).grown hg2 (by have := unhide hb; simp; omega) (own_base (unhide h))
  · obtain ⟨k0, k1, k2, k3, k4⟩ := okT_len hok h0
    have ht : tellT l t = tellN l t.dist.toNat t.len.toNat := by simp [tellT, h0]
    have hs : sizeT t = t.len := by simp [sizeT, h0]
    rw [ht, hs]
    have hll : l.length = n := by have := ownsRow_len h; simpa using this
    obtain ⟨o, L, d⟩ := t
    simp only [] at h0 k0 k1 k2 k3 k4 hd
    have hL0 : (L == 0) = false := by simpa using h0
    clear ht hs hok k0 h0
    replace h := hide h; replace hbl := hide hbl; replace hll := hide hll
    go_enter Try.func27, Try.ntmps27
    go_wp2_with fail
    go_loopw [0, 15] (fun s0 i wr => ∃ (K : Int) (m : Nat) (A2 : Option Addr) (c2 : Nat), 0 ≤ K ∧ K ≤ L ∧ i = .int .i64 K ∧ s0 = .slice A2 m c2 ∧ (m : Int) = n + K ∧ Hid (wr.ownsRow base 5 1 (.slice A2 m c2) m ((tellN l d.toNat K.toNat).map u8v)) ∧ Hid (Below base w wr) ∧ Hid (Blk wr w.heap.size 25 #[.int .u8 (n8 o), .int .i64 L, .int .i64 d])) (fun _ i _ => 18 - (intOf i).toNat)
    case atStart => exact ⟨0, n, A, c, by omega, by omega, rfl, rfl, by omega, hide ((unhide h).alloc _), hide (bb_alloc (Below.refl _ _) hb _), hide (by (repeat (first | with_reducible assumption | (focus (with_reducible refine Blk.new ?_; focus (simp <;> fail))) | with_reducible refine Blk.set3 (a := .int .u8 0) (b := .int .i64 0) (c := .int .i64 0) ?_ | with_reducible refine Blk.alloc ?_ _ | with_reducible refine Blk.drew ?_ | (focus (with_reducible refine Blk.far ?_ ?_ _; rotate_left; focus (first | omega | (simp <;> omega)))) | (focus (with_reducible refine Blk.below ?_ hb1 ?_; rotate_left; focus (first | omega | (simp <;> omega)))) | (focus (with_reducible refine Blk.below ?_ hb2 ?_; rotate_left; focus (first | omega | (simp <;> omega)))) | (focus (with_reducible refine Blk.below ?_ hb3 ?_; rotate_left; focus (first | omega | (simp <;> omega)))) | (focus (with_reducible refine Blk.below ?_ hb4 ?_; rotate_left; focus (first | omega | (simp <;> omega)))) | (focus (with_reducible refine Blk.below ?_ hb5 ?_; rotate_left; focus (first | omega | (simp <;> omega)))) | (focus (with_reducible refine Blk.below ?_ hb6 ?_; rotate_left; focus (first | omega | (simp <;> omega)))) | (focus (with_reducible refine Blk.below ?_ hb7 ?_; rotate_left; focus (first | omega | (simp <;> omega)))) | (focus (with_reducible refine Blk.below ?_ hb8 ?_; rotate_left; focus (first | omega | (simp <;> omega)))) | (focus (with_reducible refine Blk.below ?_ hb9 ?_; rotate_left; focus (first | omega | (simp <;> omega)))) | (focus (with_reducible refine Blk.below ?_ hb10 ?_; rotate_left; focus (first | omega | (simp <;> omega)))) | (focus (with_reducible refine Blk.below ?_ hb11 ?_; rotate_left; focus (first | omega | (simp <;> omega)))) | (focus (with_reducible refine Blk.below ?_ hb12 ?_; rotate_left; focus (first | omega | (simp <;> omega)))) | fail)))⟩
    case round =>
      obtain ⟨K, m, A2, c2, j0, j1, rfl, rfl, hm, ho, hbw, hB⟩ := hrel
      have q1 := (unhide hB).cell 1
      have q2 := (unhide hB).cell 2
      simp at q1 q2
      have y0 : w.heap.size < wr.heap.size := (unhide hB).lt
      by_cases hlt : K < L
      · have hlen : (tellN l d.toNat K.toNat).length = m := by rw [tellN_len]; have := unhide hll; omega
        obtain ⟨A3, c3, e3, x1, x2, x3⟩ := unhide hbl _ wr _ _ _ (unhide ho)
        injection e3 with e4 e6 e5
        clear e6
        subst e4 e5
        rw [hlen] at x1
        obtain ⟨g, off, rfl, g1, g2, g3⟩ := x3 (m - d.toNat) (by omega)
        have hnx : tellN l d.toNat (K + 1).toNat = tellN l d.toNat K.toNat ++ [(tellN l d.toNat K.toNat).getD (m - d.toNat) 0] := by
          rw [show (K + 1).toNat = K.toNat + 1 by omega, tellN, hlen]
        generalize (tellN l d.toNat K.toNat).getD (m - d.toNat) 0 = x at *
        generalize tellN l d.toNat K.toNat = T at *
        have hto := o_one x
        have hfl := map_snoc T x
        rw [← hnx] at hfl
        have b1 : m + 1 ≤ maxLen := by simp only [maxLen]; omega
        have b2 : (m + 1) * 1 ≤ 140737488355328 := by omega
        have hbs := (unhide hbw).size
        have bb : base ≤ wr.heap.size := by omega
        have hm1 : ((m + 1 : Nat) : Int) = (n : Int) + (K + 1) := by omega
        have e1 : m - d.toNat = ((m : Int) - d).toNat := by omega
        rw [e1] at g3
        have i1 : IntKind.i64.wrap ((m : Int) - d) = (m : Int) - d := IntWalk.i64_in _ (by omega)
        have i2 : (0 : Int) ≤ (m : Int) - d := by omega
        have i3 : (m : Int) - d < m := by omega
        have i4 : d ≤ (m : Int) := by omega
        have i5 : IntKind.i64.wrap (K + 1) = K + 1 := IntWalk.i64_in _ (by omega)
        replace hto := hide hto; replace hfl := hide hfl; replace b1 := hide b1; replace b2 := hide b2; replace bb := hide bb; replace hm1 := hide hm1
        clear hnx hlen x3 x1 e1
        replace hm := hide hm
        go_wp2_with (first
          | (at_builtin
             refine wpList_app _ rfl (.tmp 17) (.tmp 26) 22 rfl base 5 i0 _ 1 1 Try.underlying22 hi0 iz0 iz1 iz2 rfl (Nat.succ_pos _) _ m (T.map u8v) rfl ((unhide ho).alloc _) (some ⟨wr.heap.size, 0, none⟩) 1 1 [.int .u8 (n8 x)] rfl rfl (o_src (by (repeat (first | with_reducible assumption | (focus (with_reducible refine Blk.new ?_; focus (simp <;> fail))) | with_reducible refine Blk.set3 (a := .int .u8 0) (b := .int .i64 0) (c := .int .i64 0) ?_ | with_reducible refine Blk.alloc ?_ _ | with_reducible refine Blk.drew ?_ | (focus (with_reducible refine Blk.far ?_ ?_ _; rotate_left; focus (first | omega | (simp <;> omega)))) | (focus (with_reducible refine Blk.below ?_ hb1 ?_; rotate_left; focus (first | omega | (simp <;> omega)))) | (focus (with_reducible refine Blk.below ?_ hb2 ?_; rotate_left; focus (first | omega | (simp <;> omega)))) | (focus (with_reducible refine Blk.below ?_ hb3 ?_; rotate_left; focus (first | omega | (simp <;> omega)))) | (focus (with_reducible refine Blk.below ?_ hb4 ?_; rotate_left; focus (first | omega | (simp <;> omega)))) | (focus (with_reducible refine Blk.below ?_ hb5 ?_; rotate_left; focus (first | omega | (simp <;> omega)))) | (focus (with_reducible refine Blk.below ?_ hb6 ?_; rotate_left; focus (first | omega | (simp <;> omega)))) | (focus (with_reducible refine Blk.below ?_ hb7 ?_; rotate_left; focus (first | omega | (simp <;> omega)))) | (focus (with_reducible refine Blk.below ?_ hb8 ?_; rotate_left; focus (first | omega | (simp <;> omega)))) | (focus (with_reducible refine Blk.below ?_ hb9 ?_; rotate_left; focus (first | omega | (simp <;> omega)))) | (focus (with_reducible refine Blk.below ?_ hb10 ?_; rotate_left; focus (first | omega | (simp <;> omega)))) | (focus (with_reducible refine Blk.below ?_ hb11 ?_; rotate_left; focus (first | omega | (simp <;> omega)))) | (focus (with_reducible refine Blk.below ?_ hb12 ?_; rotate_left; focus (first | omega | (simp <;> omega)))) | fail)))) (unhide hto) (unhide b1) (unhide b2) (by have := unhide bb; simp; omega) ?_
             intro v2 w2 hown2 hg2
             obtain ⟨A4, c4, rfl⟩ := ownsRow_form hown2
             rw [unhide hfl] at hown2)
          | fail)
        clear i1 i5
        go_roundw
        case rel =>
          refine ⟨K + 1, m + 1, A4, c4, by omega, by omega, rfl, rfl, unhide hm1, hide hown2, hide ?_, hide ?_⟩
          · exact (bb_alloc (unhide hbw) hb _).grown hg2 (by have := unhide bb; simp; omega) (own_base (unhide ho))
          · exact Blk.grown ((unhide hB).alloc _) hg2 (own_ne (unhide ho) (unhide hB) (by decide))
        case measure => simp [intOf]; omega
      · obtain rfl : K = L := by omega
        replace hm := hide hm
        go_wp2_with fail
        go_ret
        exact ⟨A2, m, c2, rfl, unhide hm, unhide ho, unhide hbw⟩
end Go.Proofs.Ytiobhglhfjbcbaa
