import Derived.Test.YtfihgjdppkiolaaMB
namespace Go.Proofs.Ytfihgjdppkiolaa.M
set_option maxRecDepth 100000
open Go.RowKit

def liveL : List UInt8 := [97, 97, 97, 97, 97]
def liveT : List Tok := [⟨97, 0, 0⟩, ⟨0, 4, 1⟩]
theorem live_toks : toksB liveL = liveT := by decide +kernel
theorem liveL_bs (w : World) : Bs 0 (w.heap.size + 1) (w.alloc (.cells #[.int .u8 97, .int .u8 97, .int .u8 97, .int .u8 97, .int .u8 97] 5 (5, 6))) (.slice (some ⟨w.heap.size, 0, none⟩) 5 5) liveL := by
  refine ⟨_, 5, rfl, by simp [liveL], by omega, fun _ => ⟨w.heap.size, 0, rfl, Nat.zero_le _, by omega, fun i hi => ?_⟩⟩
  rw [cell_of_row _ w.heap.size (0 + i) _ 5 (5, 6) (heap_alloc_new w _)]
  match i, hi with
  | 0, _ => rfl
  | 1, _ => rfl
  | 2, _ => rfl
  | 3, _ => rfl
  | 4, _ => rfl
theorem liveT_tks {w : World} {g : Nat} (h : Blk w g 40 #[.int .u8 97, .int .i64 0, .int .i64 0, .int .u8 0, .int .i64 4, .int .i64 1]) : Tks 0 w.heap.size w (.slice (some ⟨g, 0, none⟩) 2 2) liveT := by
  refine Tks.make (l := liveT) (by simp [liveT]) (by omega) (Nat.zero_le _) h.lt fun k hk => ?_
  rw [h.cell, h.cell, h.cell]
  match k, hk with
  | 0, _ => exact ⟨rfl, rfl, rfl⟩
  | 1, _ => exact ⟨rfl, rfl, rfl⟩

end Go.Proofs.Ytfihgjdppkiolaa.M

namespace Go.Proofs.Ytfihgjdppkiolaa.M
set_option maxRecDepth 100000
open Go.RowKit

theorem bb_alloc {B : Nat} {a w : World} (h : Below B a w) (hB : B ≤ a.heap.size) (o : Obj) : Below B a (w.alloc o) := h.alloc (Nat.le_trans hB h.size) o
theorem bb_call {B : Nat} {a w w' : World} (h : Below B a w) (h' : Below w.heap.size w w') (hB : B ≤ a.heap.size) : Below B a w' := h.trans (h'.mono (Nat.le_trans hB h.size))
theorem o_src {w : World} {g : Nat} {x : UInt8} (h : Blk w g 5 #[.int .u8 (n8 x)]) : SrcOk w (some ⟨g, 0, none⟩) 1 [.int .u8 (n8 x)] := by
  refine fun _ => ⟨_, rfl, fun j u hu => ?_⟩
  have key : w.cell? ⟨g, j, none⟩ = some u := by
    rw [h.cell, ← hu]
    match j with
    | 0 => rfl
    | j + 1 => rfl
  unfold Addr.add
  split
  · rename_i h0; subst h0; exact key
  · rw [Nat.zero_add]; exact key
theorem o_one (x : UInt8) : ∀ u ∈ [Value.int .u8 (n8 x)], u.oneCell' = true := by
  intro u hu
  simp at hu
  subst hu
  rfl
theorem map_snoc (l : List UInt8) (x : UInt8) : l.map u8v ++ [.int .u8 (n8 x)] = (l ++ [x]).map u8v := by simp

theorem own_ne {w : World} {base : Nat} {e : TypeId} {size : Nat} {v : Value} {n : Nat} {xs : List Value} (h : w.ownsRow base e size v n xs) {g : Nat} {t : TypeId} {cs : Array Value} (hg : Blk w g t cs) (hne : e ≠ t) : some g ≠ v.ownBlock := by
  intro q
  rcases h.2 with ⟨rfl, _⟩ | ⟨g', cap, cur, rfl, _, hh, _⟩
  · cases q
  · injection q with q
    exact Blk.ne_ (t := e) (cs := cur) hh hg hne q.symm

set_option maxHeartbeats 2000000 in
theorem tell_any (base : Nat) (A : Option Addr) (n c : Nat) (l : List UInt8) (t : Tok) (w : World) (h : w.ownsRow base 5 1 (.slice A n c) n (l.map u8v)) (hb : base ≤ w.heap.size) (hok : okT t = true) (hd : t.dist ≤ n) (hn : n ≤ 2000000) :
    Calls Try.prog 57 #[.slice A n c, tkV t] w fun e w' => ∃ A' n' c', e = .returned (.slice A' n' c') ∧ (n' : Int) = n + sizeT t ∧ w'.ownsRow base 5 1 (.slice A' n' c') n' ((tellT l t).map u8v) ∧ Below base w w' := by
  obtain ⟨i0, hi0, iz0, iz1, iz2⟩ := info_parts info5
  have hbl := fun (x : List UInt8) W (m : Nat) (a : Option Addr) (d : Nat) (k : World.ownsRow W base 5 1 (.slice a m d) m (x.map u8v)) => (Bs.own k).open
  by_cases h0 : t.len = 0
  · have ht : tellT l t = l ++ [t.lit] := by simp [tellT, h0]
    have hs : sizeT t = 1 := by simp [sizeT, h0]
    rw [ht, hs]
    obtain ⟨o, tl, td⟩ := t
    simp only [] at h0
    subst h0
    have hto := o_one o
    have hfl := map_snoc l o
    have b1 : n + 1 ≤ maxLen := by simp only [maxLen]; omega
    have b2 : (n + 1) * 1 ≤ 140737488355328 := by omega
    clear ht hs hok hd hbl
    replace h := hide h; replace hto := hide hto; replace hfl := hide hfl; replace b1 := hide b1; replace b2 := hide b2; replace hb := hide hb
    go_enter Try.func57, Try.ntmps57
    go_wp2_with (first
      | (at_builtin
         refine wpList_app _ rfl (.tmp 8) (.tmp 11) 23 rfl base 5 i0 _ 1 1 Try.underlying23 hi0 iz0 iz1 iz2 rfl (Nat.succ_pos _) _ n (l.map u8v) rfl (((unhide h).alloc _).alloc _) (some ⟨w.heap.size + 1, 0, none⟩) 1 1 [.int .u8 (n8 o)] rfl rfl (o_src (by (repeat (first | with_reducible assumption | (focus (with_reducible refine Blk.new ?_; focus (simp <;> fail))) | with_reducible refine Blk.set3 (a := .int .u8 0) (b := .int .i64 0) (c := .int .i64 0) ?_ | with_reducible refine Blk.alloc ?_ _ | with_reducible refine Blk.drew ?_ | (focus (with_reducible refine Blk.far ?_ ?_ _; rotate_left; focus (first | omega | (simp <;> omega)))) | (focus (with_reducible refine Blk.below ?_ hb1 ?_; rotate_left; focus (first | omega | (simp <;> omega)))) | (focus (with_reducible refine Blk.below ?_ hb2 ?_; rotate_left; focus (first | omega | (simp <;> omega)))) | (focus (with_reducible refine Blk.below ?_ hb3 ?_; rotate_left; focus (first | omega | (simp <;> omega)))) | (focus (with_reducible refine Blk.below ?_ hb4 ?_; rotate_left; focus (first | omega | (simp <;> omega)))) | (focus (with_reducible refine Blk.below ?_ hb5 ?_; rotate_left; focus (first | omega | (simp <;> omega)))) | (focus (with_reducible refine Blk.below ?_ hb6 ?_; rotate_left; focus (first | omega | (simp <;> omega)))) | (focus (with_reducible refine Blk.below ?_ hb7 ?_; rotate_left; focus (first | omega | (simp <;> omega)))) | (focus (with_reducible refine Blk.below ?_ hb8 ?_; rotate_left; focus (first | omega | (simp <;> omega)))) | (focus (with_reducible refine Blk.below ?_ hb9 ?_; rotate_left; focus (first | omega | (simp <;> omega)))) | (focus (with_reducible refine Blk.below ?_ hb10 ?_; rotate_left; focus (first | omega | (simp <;> omega)))) | (focus (with_reducible refine Blk.below ?_ hb11 ?_; rotate_left; focus (first | omega | (simp <;> omega)))) | (focus (with_reducible refine Blk.below ?_ hb12 ?_; rotate_left; focus (first | omega | (simp <;> omega)))) | fail)))) (unhide hto) (unhide b1) (unhide b2) (by have := unhide hb; simp; omega) ?_
         intro v2 w2 hown2 hg2
         obtain ⟨A2, c2, rfl⟩ := ownsRow_form hown2
         rw [unhide hfl] at hown2)
      | fail)
    go_ret
    refine ⟨A2, n + 1, c2, rfl, by simp, hown2, ?_⟩
    exact (bb_alloc (bb_alloc (Below.refl _ _) (unhide hb) _) (unhide hb) _).grown hg2 (by have := unhide hb; simp; omega) (own_base (unhide h))
  · obtain ⟨k0, k1, k2, k3, k4⟩ := okT_len hok h0
    have ht : tellT l t = tellN l t.dist.toNat t.len.toNat := by simp [tellT, h0]
    have hs : sizeT t = t.len := by simp [sizeT, h0]
    rw [ht, hs]
    have hll : l.length = n := by have := ownsRow_len h; simpa using this
    obtain ⟨o, L, d⟩ := t
    simp only [] at h0 k0 k1 k2 k3 k4 hd
    have hL0 : (L == 0) = false := by simpa using h0
    clear ht hs hok k0 h0
    replace h := hide h; replace hbl := hide hbl; replace hll := hide hll
    go_enter Try.func57, Try.ntmps57
    go_wp2_with fail
    go_loopw [0, 15] (fun s0 i wr => ∃ (K : Int) (m : Nat) (A2 : Option Addr) (c2 : Nat), 0 ≤ K ∧ K ≤ L ∧ i = .int .i64 K ∧ s0 = .slice A2 m c2 ∧ (m : Int) = n + K ∧ Hid (wr.ownsRow base 5 1 (.slice A2 m c2) m ((tellN l d.toNat K.toNat).map u8v)) ∧ Hid (Below base w wr) ∧ Hid (Blk wr w.heap.size 40 #[.int .u8 (n8 o), .int .i64 L, .int .i64 d])) (fun _ i _ => 18 - (intOf i).toNat)
    case atStart => exact ⟨0, n, A, c, by omega, by omega, rfl, rfl, by omega, hide ((unhide h).alloc _), hide (bb_alloc (Below.refl _ _) hb _), hide (by (repeat (first | with_reducible assumption | (focus (with_reducible refine Blk.new ?_; focus (simp <;> fail))) | with_reducible refine Blk.set3 (a := .int .u8 0) (b := .int .i64 0) (c := .int .i64 0) ?_ | with_reducible refine Blk.alloc ?_ _ | with_reducible refine Blk.drew ?_ | (focus (with_reducible refine Blk.far ?_ ?_ _; rotate_left; focus (first | omega | (simp <;> omega)))) | (focus (with_reducible refine Blk.below ?_ hb1 ?_; rotate_left; focus (first | omega | (simp <;> omega)))) | (focus (with_reducible refine Blk.below ?_ hb2 ?_; rotate_left; focus (first | omega | (simp <;> omega)))) | (focus (with_reducible refine Blk.below ?_ hb3 ?_; rotate_left; focus (first | omega | (simp <;> omega)))) | (focus (with_reducible refine Blk.below ?_ hb4 ?_; rotate_left; focus (first | omega | (simp <;> omega)))) | (focus (with_reducible refine Blk.below ?_ hb5 ?_; rotate_left; focus (first | omega | (simp <;> omega)))) | (focus (with_reducible refine Blk.below ?_ hb6 ?_; rotate_left; focus (first | omega | (simp <;> omega)))) | (focus (with_reducible refine Blk.below ?_ hb7 ?_; rotate_left; focus (first | omega | (simp <;> omega)))) | (focus (with_reducible refine Blk.below ?_ hb8 ?_; rotate_left; focus (first | omega | (simp <;> omega)))) | (focus (with_reducible refine Blk.below ?_ hb9 ?_; rotate_left; focus (first | omega | (simp <;> omega)))) | (focus (with_reducible refine Blk.below ?_ hb10 ?_; rotate_left; focus (first | omega | (simp <;> omega)))) | (focus (with_reducible refine Blk.below ?_ hb11 ?_; rotate_left; focus (first | omega | (simp <;> omega)))) | (focus (with_reducible refine Blk.below ?_ hb12 ?_; rotate_left; focus (first | omega | (simp <;> omega)))) | fail)))⟩
    case round =>
      obtain ⟨K, m, A2, c2, j0, j1, rfl, rfl, hm, ho, hbw, hB⟩ := hrel
      have q1 := (unhide hB).cell 1
      have q2 := (unhide hB).cell 2
      simp at q1 q2
      have y0 : w.heap.size < wr.heap.size := (unhide hB).lt
      by_cases hlt : K < L
      · have hlen : (tellN l d.toNat K.toNat).length = m := by rw [tellN_len]; have := unhide hll; omega
        obtain ⟨A3, c3, e3, x1, x2, x3⟩ := unhide hbl _ wr _ _ _ (unhide ho)
        injection e3 with e4 e6 e5
        clear e6
        subst e4 e5
        rw [hlen] at x1
        obtain ⟨g, off, rfl, g1, g2, g3⟩ := x3 (m - d.toNat) (by omega)
        have hnx : tellN l d.toNat (K + 1).toNat = tellN l d.toNat K.toNat ++ [(tellN l d.toNat K.toNat).getD (m - d.toNat) 0] := by
          rw [show (K + 1).toNat = K.toNat + 1 by omega, tellN, hlen]
        generalize (tellN l d.toNat K.toNat).getD (m - d.toNat) 0 = x at *
        generalize tellN l d.toNat K.toNat = T at *
        have hto := o_one x
        have hfl := map_snoc T x
        rw [← hnx] at hfl
        have b1 : m + 1 ≤ maxLen := by simp only [maxLen]; omega
        have b2 : (m + 1) * 1 ≤ 140737488355328 := by omega
        have hbs := (unhide hbw).size
        have bb : base ≤ wr.heap.size := by omega
        have hm1 : ((m + 1 : Nat) : Int) = (n : Int) + (K + 1) := by omega
        have e1 : m - d.toNat = ((m : Int) - d).toNat := by omega
        rw [e1] at g3
        have i1 : IntKind.i64.wrap ((m : Int) - d) = (m : Int) - d := IntWalk.i64_in _ (by omega)
        have i2 : (0 : Int) ≤ (m : Int) - d := by omega
        have i3 : (m : Int) - d < m := by omega
        have i4 : d ≤ (m : Int) := by omega
        have i5 : IntKind.i64.wrap (K + 1) = K + 1 := IntWalk.i64_in _ (by omega)
        replace hto := hide hto; replace hfl := hide hfl; replace b1 := hide b1; replace b2 := hide b2; replace bb := hide bb; replace hm1 := hide hm1
        clear hnx hlen x3 x1 e1
        replace hm := hide hm
        go_wp2_with (first
          | (at_builtin
             refine wpList_app _ rfl (.tmp 17) (.tmp 26) 23 rfl base 5 i0 _ 1 1 Try.underlying23 hi0 iz0 iz1 iz2 rfl (Nat.succ_pos _) _ m (T.map u8v) rfl ((unhide ho).alloc _) (some ⟨wr.heap.size, 0, none⟩) 1 1 [.int .u8 (n8 x)] rfl rfl (o_src (by (repeat (first | with_reducible assumption | (focus (with_reducible refine Blk.new ?_; focus (simp <;> fail))) | with_reducible refine Blk.set3 (a := .int .u8 0) (b := .int .i64 0) (c := .int .i64 0) ?_ | with_reducible refine Blk.alloc ?_ _ | with_reducible refine Blk.drew ?_ | (focus (with_reducible refine Blk.far ?_ ?_ _; rotate_left; focus (first | omega | (simp <;> omega)))) | (focus (with_reducible refine Blk.below ?_ hb1 ?_; rotate_left; focus (first | omega | (simp <;> omega)))) | (focus (with_reducible refine Blk.below ?_ hb2 ?_; rotate_left; focus (first | omega | (simp <;> omega)))) | (focus (with_reducible refine Blk.below ?_ hb3 ?_; rotate_left; focus (first | omega | (simp <;> omega)))) | (focus (with_reducible refine Blk.below ?_ hb4 ?_; rotate_left; focus (first | omega | (simp <;> omega)))) | (focus (with_reducible refine Blk.below ?_ hb5 ?_; rotate_left; focus (first | omega | (simp <;> omega)))) | (focus (with_reducible refine Blk.below ?_ hb6 ?_; rotate_left; focus (first | omega | (simp <;> omega)))) | (focus (with_reducible refine Blk.below ?_ hb7 ?_; rotate_left; focus (first | omega | (simp <;> omega)))) | (focus (with_reducible refine Blk.below ?_ hb8 ?_; rotate_left; focus (first | omega | (simp <;> omega)))) | (focus (with_reducible refine Blk.below ?_ hb9 ?_; rotate_left; focus (first | omega | (simp <;> omega)))) | (focus (with_reducible refine Blk.below ?_ hb10 ?_; rotate_left; focus (first | omega | (simp <;> omega)))) | (focus (with_reducible refine Blk.below ?_ hb11 ?_; rotate_left; focus (first | omega | (simp <;> omega)))) | (focus (with_reducible refine Blk.below ?_ hb12 ?_; rotate_left; focus (first | omega | (simp <;> omega)))) | fail)))) (unhide hto) (unhide b1) (unhide b2) (by have := unhide bb; simp; omega) ?_
             intro v2 w2 hown2 hg2
             obtain ⟨A4, c4, rfl⟩ := ownsRow_form hown2
             rw [unhide hfl] at hown2)
          | fail)
        clear i1 i5
        go_roundw
        case rel =>
          refine ⟨K + 1, m + 1, A4, c4, by omega, by omega, rfl, rfl, unhide hm1, hide hown2, hide ?_, hide ?_⟩
          · exact (bb_alloc (unhide hbw) hb _).grown hg2 (by have := unhide bb; simp; omega) (own_base (unhide ho))
          · exact Blk.grown ((unhide hB).alloc _) hg2 (own_ne (unhide ho) (unhide hB) (by decide))
        case measure => simp [intOf]; omega
      · obtain rfl : K = L := by omega
        replace hm := hide hm
        go_wp2_with fail
        go_ret
        exact ⟨A2, m, c2, rfl, unhide hm, unhide ho, unhide hbw⟩
end Go.Proofs.Ytfihgjdppkiolaa.M

namespace Go.Proofs.Ytfihgjdppkiolaa.M
set_option maxRecDepth 100000
open Go.RowKit

/-- What Text answers. -/
def textR (l : List Tok) (most : Int) : List UInt8 × Int :=
  if okB l = false then ([], 1) else if most < 0 then ([], 1) else if sumT l ≤ most ∧ sumT l ≤ 65536 then (textF [] l, 0) else ([], 3)
theorem ret_si {A : Option Addr} {n c : Nat} {a b : Int} (h : a = b) : Ending.returned (.tuple #[.slice A n c, .int .i64 a]) = .returned (.tuple #[.slice A n c, .int .i64 b]) := by rw [h]

set_option maxHeartbeats 2000000 in
theorem Text_any (lo : Nat) (v : Value) (l : List Tok) (most : Int) (bs : List UInt8) (er : Int) (w : World) (h : Tks lo w.heap.size w v l) (hr : textR l most = (bs, er)) :
    Calls Try.prog 32 #[v, .int .i64 most] w fun e w' => ∃ A n c, e = .returned (.tuple #[.slice A n c, .int .i64 er]) ∧ w'.ownsRow w.heap.size 5 1 (.slice A n c) n (bs.map u8v) ∧ Below w.heap.size w w' := by
  obtain ⟨i0, hi0, iz0, iz1, iz2⟩ := info_parts info5
  have hlg := Long_any lo v l w h
  obtain ⟨A, c, rfl, h1, h2, h3⟩ := h.open
  clear h
  cases hok : okB l with
  | false =>
    rw [textR, if_pos hok] at hr
    injection hr with r1 r2
    subst r1 r2
    rw [hok] at hlg
    change Calls Try.prog 36 #[.slice A l.length c] w fun e w' => e = .returned (.tuple #[.int .i64 (longN l), .int .i64 1]) ∧ Below w.heap.size w w' at hlg
    replace hlg := hide hlg; replace hok := hide hok; replace h3 := hide h3
    go_enter Try.func32, Try.ntmps32
    go_wp2_with (go_at_call 36; refine (unhide hlg).mono ?_; rintro e w1 ⟨rfl, hb1⟩)
    go_ret2
    exact ⟨none, 0, 0, rfl, World.ownsRow_nil _ _ _ _, hb1⟩
  | true =>
    rw [textR, if_neg (by rw [hok]; decide)] at hr
    obtain ⟨o1, o2⟩ := okB_iff.1 hok
    have hs := okL_sum o2
    have hln : longN l = sumT l := by simp [longN, hok]
    rw [hok, hln] at hlg
    change Calls Try.prog 36 #[.slice A l.length c] w fun e w' => e = .returned (.tuple #[.int .i64 (sumT l), .int .i64 0]) ∧ Below w.heap.size w w' at hlg
    have hsl : sumT (l.take l.length) = sumT l := by rw [List.take_length]
    have htl : textF [] (l.take l.length) = textF [] l := by rw [List.take_length]
    generalize hS : sumT l = S at *
    obtain ⟨s1, s2⟩ := hs
    by_cases hm : most < 0
    · rw [if_pos hm] at hr
      injection hr with r1 r2
      subst r1 r2
      replace hlg := hide hlg; replace hok := hide hok; replace h3 := hide h3; replace hS := hide hS; replace hsl := hide hsl; replace htl := hide htl
      go_enter Try.func32, Try.ntmps32
      go_wp2_with (go_at_call 36; refine (unhide hlg).mono ?_; rintro e w1 ⟨rfl, hb1⟩)
      go_ret2
      exact ⟨none, 0, 0, rfl, World.ownsRow_nil _ _ _ _, hb1⟩
    · rw [if_neg hm] at hr
      by_cases hc : S ≤ most ∧ S ≤ 65536
      · rw [if_pos hc] at hr
        injection hr with r1 r2
        subst r1 r2
        obtain ⟨c1, c2⟩ := hc
        obtain ⟨N, hN⟩ : ∃ N : Nat, S = N := ⟨S.toNat, by omega⟩
        have hmk0 := fun W : World => run_make (P := Try.prog) W 23 5 i0 _ Try.underlying23 hi0 iz0 .i64 .i64 0 S (by omega) (by omega) (by rw [iz2]; omega) (by omega)
        have hmk : ∃ C : Array Value, C.size = N ∧ ∀ W : World, (Instr.makeSlice 23 (.int .i64 0) (.int .i64 S)).run Try.prog W = .ok (.slice (some ⟨W.heap.size, 0, none⟩) 0 N) (W.alloc (.cells C 5)) := by
          refine ⟨madeCells (Value.int .u8 0).cells (S.toNat * i0.size), ?_, fun W => ?_⟩
          · rw [hN, Int.toNat_natCast, iz1]; simp [madeCells]
          · rw [hmk0 W, hN, Int.toNat_natCast]; rfl
        obtain ⟨C, hC, hmk⟩ := hmk
        have hown0 : ∀ W : World, Below w.heap.size w W → (W.alloc (.cells C 5)).ownsRow w.heap.size 5 1 (.slice (some ⟨W.heap.size, 0, none⟩) 0 N) 0 [] := fun W hb => own_fresh W _ _ 5 1 N C rfl hb.size (by simp only [maxLen]; omega) (by omega)
        replace hN := hide hN; replace hC := hide hC; replace hown0 := hide hown0; replace o2 := hide o2
        replace hlg := hide hlg; replace hok := hide hok; replace h3 := hide h3; replace hS := hide hS; replace hsl := hide hsl; replace htl := hide htl
        clear hmk0 hln
        have g1 : ¬ most < S := by omega
        have g2 : ¬ 65536 < S := by omega
        go_enter Try.func32, Try.ntmps32
        go_wp2_with (go_at_call 36; refine (unhide hlg).mono ?_; rintro e w1 ⟨rfl, hb1⟩)
        all_goals
          replace hmk := hide hmk
          go_loopw [8, 29] (fun s8 i wr => ∃ (k m : Nat) (A2 : Option Addr) (c2 : Nat), k ≤ l.length ∧ i = .int .i64 k ∧ s8 = .slice A2 m c2 ∧ Hid ((m : Int) = sumT (l.take k)) ∧ m ≤ 18 * k ∧ Hid (wr.ownsRow w.heap.size 5 1 (.slice A2 m c2) m ((textF [] (l.take k)).map u8v)) ∧ Hid (Below w.heap.size w wr)) (fun _ i _ => l.length - (intOf i).toNat)
          case atStart => exact ⟨0, 0, _, _, Nat.zero_le _, rfl, rfl, hide rfl, Nat.le_refl _, hide (unhide hown0 w1 hb1), hide (by (repeat (first | with_reducible exact Below.refl _ _ | with_reducible assumption | with_reducible refine Below.drew ?_ | with_reducible refine bl_alloc ?_ _ | with_reducible refine bl_call ?_ (by assumption) | (focus (with_reducible refine Below.setCell ?_ ?_ _; rotate_left; focus (first | omega | (simp <;> omega)))) | fail)))⟩
          case round =>
            obtain ⟨k, m, A2, c2, hk, rfl, rfl, hm1, hm2, ho, hb⟩ := hrel
            by_cases hlt : k < l.length
            · obtain ⟨b, off, rfl, x1, x2, q0, q1, q2⟩ := unhide h3 k hlt
              have c0 := ((unhide hb).cell (p := ⟨b, off + k * 3, none⟩) x2).trans q0
              have c1 := ((unhide hb).cell (p := ⟨b, off + k * 3 + 1, none⟩) x2).trans q1
              have c2' := ((unhide hb).cell (p := ⟨b, off + k * 3 + 2, none⟩) x2).trans q2
              obtain ⟨t1, t2⟩ := okL_get hlt (unhide o2)
              have t3 := okT_size t1
              have hsn := sumT_snoc hlt
              have htx := textF_snoc (b := []) hlt
              have hbs := (unhide hb).size
              rw [Int.zero_add, ← unhide hm1] at t2
              rw [← unhide hm1] at hsn
              have htell := fun W (hbb : Below wr.heap.size wr W) => tell_any w.heap.size A2 m c2 (textF [] (l.take k)) l[k] W (own_below (unhide ho) hbb (Nat.le_refl _)) (Nat.le_trans hbs hbb.size) t1 t2 (by omega)
              rw [← htx] at htell
              unfold tkV at htell
              generalize l[k] = t at *
              clear q0 q1 q2 x1 x2 htx t1 t2
              replace htell := hide htell; replace hsn := hide hsn; replace hbs := hide hbs
              go_wp2_with (go_at_call 57; refine (unhide htell _ (by (repeat (first | with_reducible exact Below.refl _ _ | with_reducible assumption | with_reducible refine Below.drew ?_ | with_reducible refine bl_alloc ?_ _ | with_reducible refine bl_call ?_ (by assumption) | (focus (with_reducible refine Below.setCell ?_ ?_ _; rotate_left; focus (first | omega | (simp <;> omega)))) | fail)))).mono ?_; rintro e w2 ⟨A3, n3, c3, rfl, hn3, ho3, hb3⟩; replace hn3 := hide hn3; replace ho3 := hide ho3)
              go_roundw
              case rel => exact ⟨k + 1, n3, A3, c3, by omega, by go_num, rfl, hide (by rw [unhide hsn]; exact unhide hn3), by have := unhide hn3; omega, hide (unhide ho3), hide (((unhide hb).alloc (unhide hbs) _).trans hb3)⟩
              case measure => simp [intOf]; omega
            · obtain rfl : k = l.length := by omega
              go_wp2_with fail
              go_ret2
              have ho' := unhide ho
              rw [unhide htl] at ho'
              exact ⟨A2, m, c2, rfl, ho', unhide hb⟩
      · rw [if_neg hc] at hr
        injection hr with r1 r2
        subst r1 r2
        replace hlg := hide hlg; replace hok := hide hok; replace h3 := hide h3; replace hS := hide hS; replace hsl := hide hsl; replace htl := hide htl
        replace hc := hide hc
        go_enter Try.func32, Try.ntmps32
        go_wp2_with (go_at_call 36; refine (unhide hlg).mono ?_; rintro e w1 ⟨rfl, hb1⟩)
        all_goals (have hc' := unhide hc; first | (exfalso; omega) | skip)
        all_goals go_ret2
        all_goals exact ⟨none, 0, 0, rfl, World.ownsRow_nil _ _ _ _, hb1⟩
end Go.Proofs.Ytfihgjdppkiolaa.M

namespace Go.Proofs.Ytfihgjdppkiolaa.M
set_option maxRecDepth 100000
open Go.RowKit

theorem toksB_ok {l : List UInt8} (h : l.length ≤ 65536) : okB (toksB l) = true := by
  rw [okB_iff]; exact ⟨by have := toksB_len l; omega, (toksB_text l).2⟩
/-- Tokens' contract for a text whose world has grown. -/
theorem Tokens_at (lo : Nat) (v : Value) (l : List UInt8) (w : World) (h : Bs lo w.heap.size w v l) (hl : l.length ≤ 65536) (W : World) (hb : Below w.heap.size w W) :
    Calls Try.prog 24 #[v] W fun e w' => ∃ A c, e = .returned (.tuple #[.slice A (toksB l).length c, .int .i64 0]) ∧ Tks 0 w'.heap.size w' (.slice A (toksB l).length c) (toksB l) ∧ Below W.heap.size W w' :=
  (Tokens_any lo v l W (h.grow hb) hl).mono fun _ _ ⟨A, c, he, ho, hb'⟩ => ⟨A, c, he, (Tks.own ho).mono (Nat.zero_le _) (Nat.le_refl _), hb'⟩
theorem Text_at (v : Value) (T : List Tok) (most : Int) (bs : List UInt8) (er : Int) (hr : textR T most = (bs, er)) (lo : Nat) (W : World) (h : Tks lo W.heap.size W v T) :
    Calls Try.prog 32 #[v, .int .i64 most] W fun e w' => ∃ A c, e = .returned (.tuple #[.slice A bs.length c, .int .i64 er]) ∧ Bs 0 w'.heap.size w' (.slice A bs.length c) bs ∧ Below W.heap.size W w' :=
  (Text_any lo v T most bs er W h hr).mono fun e w' ⟨A, n, c, he, ho, hb'⟩ => by
    have hn : bs.length = n := by have := ownsRow_len ho; simpa using this
    subst hn
    exact ⟨A, c, he, (Bs.own ho).mono (Nat.zero_le _) (Nat.le_refl _), hb'⟩

end Go.Proofs.Ytfihgjdppkiolaa.M
