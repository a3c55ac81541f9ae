import Derived.Test.YthjgnbjobinhdaaP5
namespace Go.Proofs.Ythjgnbjobinhdaa
open Go.RowKit
set_option maxRecDepth 100000

theorem elem22 : Try.prog.underlying 22 = some (.slice (Try.prog.elem 22)) := by kernel_rfl
theorem size35 : ∀ W, (sizeOf (Try.prog.elem 22)).run Try.prog W = .ok 2 W := fun W => by kernel_rfl
theorem pslice_h (A : Option Addr) (n c j : Nat) (hj : j ≤ c) (W : World) :
    (Instr.slice 22 (.slice A n c) none (some (.int .i64 (j : Int))) none).run Try.prog W = .ok (sliced A 0 j c 2) W := by
  rw [run_slice_h (P := Try.prog) W 22 A n c elem22 .i64 j (by omega) (by omega), size35]
  simp [Result.andThen]
theorem pslice_l (A : Option Addr) (n c i : Nat) (hi : i ≤ n) (W : World) :
    (Instr.slice 22 (.slice A n c) (some (.int .i64 (i : Int))) none none).run Try.prog W = .ok (sliced A i n c 2) W := by
  rw [run_slice_l (P := Try.prog) W 22 A n c elem22 .i64 i (by omega) (by omega), size35]
  simp [Result.andThen]
theorem Rd.part2 {lo hi : Nat} {w : World} {A : Option Addr} {n c : Nat} {l : List Pn} (h : Pns lo hi w (.slice A n c) l) (i j : Nat) (hij : i ≤ j) (hj : j ≤ l.length) :
    ∃ A', sliced A i j c 2 = .slice A' (j - i) (c - i) ∧ Pns lo hi w (.slice A' (j - i) (c - i)) ((l.drop i).take (j - i)) := by
  obtain ⟨A', c', e, h1, h2, h3⟩ := h
  injection e with e1 e2 e3
  subst e1 e2 e3
  refine ⟨if c = i then A else A.map (·.add (i * 2)), rfl, ?_⟩
  have hlen : ((l.drop i).take (j - i)).length = j - i := by rw [List.length_take, List.length_drop]; omega
  refine ⟨_, c - i, by rw [hlen], by omega, by omega, fun h0 => ?_⟩
  obtain ⟨b, off, rfl, g1, g2, hc⟩ := h3 (by omega)
  rw [if_neg (by omega)]
  refine ⟨b, off + i * 2, ?_, g1, g2, fun q hq r u hu => ?_⟩
  · simp only [Option.map_some, Addr.add]
    split
    · rename_i h0
      have : i = 0 := by omega
      subst this; rfl
    · rfl
  · have hq' : i + q < l.length := by omega
    rw [List.getElem_take, List.getElem_drop] at hu
    have := hc (i + q) hq' r u hu
    rwa [show off + (i + q) * 2 + r = off + i * 2 + q * 2 + r by omega] at this
theorem one_pns {W : World} {g : Nat} {f : Pn} (h : Blk W g 35 #[.int .u64 f.g, .int .i64 f.n]) : Pns 0 W.heap.size W (.slice (some ⟨g, 0, none⟩) 1 1) [f] :=
  ⟨_, 1, rfl, by simp, by omega, fun _ => ⟨g, 0, rfl, Nat.zero_le _, h.lt, fun i hi j u hu => by
    have hi : i = 0 := by simp at hi; omega
    subst hi
    rw [show 0 + 0 * 2 + j = j by omega, h.cell]
    rw [← pc_arr]; simpa using hu⟩⟩
theorem own_nil (w : World) (base : Nat) : OwnP w base (.slice none 0 0) [] := World.ownsRow_nil _ _ _ _

theorem three (lo hi : Nat) (c c1 : Nat) (l m : List Pn) (i b : Nat) (A0 A1 A2 : Option Addr) (c2 : Nat) (w : World) (hhi : hi ≤ w.heap.size) (hl8 : l.length ≤ 100000) (hm8 : m.length ≤ 1) (hi' : i ≤ l.length) (hb : b ≤ l.length)
    (z0 : Pns lo hi w (.slice A0 i c) (l.take i)) (z2 : Pns lo hi w (.slice A2 (l.length - b) c2) (l.drop b)) :
    ∀ W g, Below w.heap.size w W → g < W.heap.size → W.cell? ⟨g, 0, none⟩ = some (.slice A0 i c) → W.cell? ⟨g, 1, none⟩ = some (.slice A1 m.length c1) → W.cell? ⟨g, 2, none⟩ = some (.slice A2 (l.length - b) c2) → Pns 0 W.heap.size W (.slice A1 m.length c1) m →
      Calls Try.prog 31 #[.slice (some ⟨g, 0, none⟩) 3 3] W fun e w' => ∃ v, e = .returned v ∧ OwnP w' W.heap.size v (l.take i ++ (m ++ l.drop b)) ∧ Below W.heap.size W w' := fun W g hB hg d0 d1 d3 hq => by
  have e0 : (l.take i).length = i := by rw [List.length_take]; omega
  have e2 : (l.drop b).length = l.length - b := List.length_drop
  have hL : Lists 0 W g [l.take i, m, l.drop b] := fun k hk => by
    have hk : k < 3 := hk
    match k, hk with
    | 0, _ => exact ⟨A0, c, by simp only [List.getElem_cons_zero]; rw [e0]; exact d0, by simp only [List.getElem_cons_zero]; rw [e0]; exact (z0.below hB hhi).mono (Nat.zero_le _) (Nat.le_trans hhi hB.size)⟩
    | 1, _ => exact ⟨A1, c1, d1, hq⟩
    | 2, _ => exact ⟨A2, c2, by simp only [List.getElem_cons_succ, List.getElem_cons_zero]; rw [e2]; exact d3, by simp only [List.getElem_cons_succ, List.getElem_cons_zero]; rw [e2]; exact (z2.below hB hhi).mono (Nat.zero_le _) (Nat.le_trans hhi hB.size)⟩
  have hcat : cat [l.take i, m, l.drop b] 3 = l.take i ++ (m ++ l.drop b) := by simp [cat]
  have hup : upto [l.take i, m, l.drop b] 3 = (l.take i ++ (m ++ l.drop b)).length := by rw [← upto_cat, hcat]
  have := concat_any 0 g _ W hL hg (by simp) (by unfold upto; simp; omega)
  rw [show [l.take i, m, l.drop b].length = 3 from rfl, hcat, hup] at this
  exact this.mono fun e w' ⟨A, c, he, ho, hb⟩ => ⟨_, he, ho, hb⟩

set_option maxHeartbeats 2000000 in
theorem counted_any (lo hi : Nat) (v : Value) (l : List Pn) (g n : Int) (w : World) (h : Pns lo hi w v l) (hhi : hi ≤ w.heap.size) (hl8 : l.length ≤ 100000) (hU : Up l) :
    Calls Try.prog 23 #[v, .int .u64 g, .int .i64 n] w fun e w' => ∃ v', e = .returned v' ∧ OwnP w' w.heap.size v' (putP l g n) ∧ Below w.heap.size w w' := by
  have hF1 := fun W (hB : Below w.heap.size w W) (hg : Blk W w.heap.size 23 #[.int .u64 g]) => first29_any (.pointer (some ⟨w.heap.size, 0, none⟩)) (fun p => decide (p.g ≥ g)) lo hi v l W (h.below hB hhi) (Nat.le_trans hhi hB.size)
    (fun f W' hB' => ge_any f g w.heap.size W' (hg.below hB' hg.lt))
  have hF2 := fun W (hB : Below w.heap.size w W) (hg : Blk W w.heap.size 23 #[.int .u64 g]) => first30_any (.pointer (some ⟨w.heap.size, 0, none⟩)) (fun p => decide (p.g > g)) lo hi v l W (h.below hB hhi) (Nat.le_trans hhi hB.size)
    (fun f W' hB' => gt_any f g w.heap.size W' (hg.below hB' hg.lt))
  have q1 := ahead_low hU g
  have q2 := ahead_high hU g
  have i1 := ahead_le (fun p : Pn => decide (p.g ≥ g)) l
  have i2 := ahead_le (fun p : Pn => decide (p.g > g)) l
  have hh := h
  obtain ⟨A, c, rfl, h1, h2, h3⟩ := hh
  clear h3 hU
  obtain ⟨i, hi'⟩ : ∃ i, i = ahead (fun p : Pn => decide (p.g ≥ g)) l := ⟨_, rfl⟩
  obtain ⟨b, hb'⟩ : ∃ i, i = ahead (fun p : Pn => decide (p.g > g)) l := ⟨_, rfl⟩
  rw [← hi'] at hF1 q1 i1
  rw [← hb'] at hF2 q2 i2
  clear hi' hb'
  obtain ⟨A0, s0, z0⟩ := h.part2 0 i (by omega) (by omega)
  rw [List.drop_zero, Nat.sub_zero, Nat.sub_zero] at z0
  rw [Nat.sub_zero, Nat.sub_zero] at s0
  have t0 := pslice_h A l.length c i (by omega)
  rw [s0] at t0
  obtain ⟨A2, s2, z2⟩ := h.part2 b l.length (by omega) (by omega)
  rw [List.take_of_length_le (by rw [List.length_drop]; omega)] at z2
  have t2 := pslice_l A l.length c b (by omega)
  rw [s2] at t2
  unfold putP
  rw [← q1, ← q2]
  unfold oneP
  by_cases hn : 0 < n
  · rw [if_pos hn]
    have hT := fun W g1 g2 (hB : Below w.heap.size w W) hg a0 a1 a2 (hq : Blk W g2 35 #[.int .u64 g, .int .i64 n]) => three lo hi c 1 l [⟨g, n⟩] i b A0 (some ⟨g2, 0, none⟩) A2 (c - b) w hhi hl8 (by simp) i1 i2 z0 z2 W g1 hB hg a0 a1 a2 (one_pns hq)
    obtain ⟨m, hm⟩ : ∃ m, m = l.take i ++ ([⟨g, n⟩] ++ l.drop b) := ⟨_, rfl⟩
    rw [← hm] at hT ⊢
    clear h z0 z2 s0 s2 hm q1 q2 hl8
    generalize c - b = c2 at *
    simp only [List.length_cons, List.length_nil] at hT
    generalize l.length - b = n2 at *
    generalize l.length = n1 at *
    replace hT := hide hT; replace h1 := hide h1; replace hF1 := hide hF1; replace hF2 := hide hF2
    have tk : True := trivial
    go_enter Try.func23, Try.ntmps23
    go_upto_region 6 with (first
      | (have _t := tk; clear tk _t; go_at_call 27; refine (unhide hF1 _ (bl_alloc (Below.refl _ _) _) (Blk.new rfl)).mono ?_; rintro e w1 ⟨rfl, B1⟩; (have k0 : Blk w1 w.heap.size 23 #[.int .u64 g] := Blk.below (Blk.new rfl) B1 (by simp only [World.size_alloc]; omega)); (have BW := (bl_alloc (Below.refl w.heap.size w) (.cells #[.int .u64 g] 23)).trans (B1.mono (by simp only [World.size_alloc]; omega))); clear B1; replace BW := hide BW; replace k0 := hide k0)
      | (go_at_call 27; refine (unhide hF2 _ (unhide BW) (unhide k0)).mono ?_; rintro e w2 ⟨rfl, B2⟩; replace k0 := hide ((unhide k0).below B2 (unhide k0).lt); replace BW := hide ((unhide BW).trans (B2.mono (unhide BW).size)); (have c0 := (unhide k0).cell 0); simp at c0; (have y0 := (unhide k0).lt); clear B2))
    have hB1 := (unhide BW).size
    go_region_with ((go_at_call 31; refine (unhide hT _ _ w2.heap.size (((unhide BW).alloc hB1 _).alloc (by simp; omega) _).drew (by simp) (by simp) (by simp) (by simp) (Blk.drew (Blk.alloc (Blk.new rfl) _))).mono ?_; rintro e w3 ⟨v', rfl, O2, B3⟩))
    all_goals go_wp2
    all_goals go_ret
    all_goals exact ⟨v', rfl, ownsRow_mono O2 (by simp; omega), (((unhide BW).alloc hB1 _).alloc (by simp; omega) _).drew.trans (B3.mono (by simp; omega))⟩
  · rw [if_neg hn]
    have hT := fun W g1 (hB : Below w.heap.size w W) hg a0 a1 a2 => three lo hi c 0 l [] i b A0 none A2 (c - b) w hhi hl8 (by simp) i1 i2 z0 z2 W g1 hB hg a0 a1 a2 (Rd.nil _ _ _ _ _)
    obtain ⟨m, hm⟩ : ∃ m, m = l.take i ++ ([] ++ l.drop b) := ⟨_, rfl⟩
    rw [← hm] at hT ⊢
    clear h z0 z2 s0 s2 hm q1 q2 hl8
    generalize c - b = c2 at *
    simp only [List.length_nil] at hT
    generalize l.length - b = n2 at *
    generalize l.length = n1 at *
    replace hT := hide hT; replace h1 := hide h1; replace hF1 := hide hF1; replace hF2 := hide hF2
    have tk : True := trivial
    go_enter Try.func23, Try.ntmps23
    go_upto_region 6 with (first
      | (have _t := tk; clear tk _t; go_at_call 27; refine (unhide hF1 _ (bl_alloc (Below.refl _ _) _) (Blk.new rfl)).mono ?_; rintro e w1 ⟨rfl, B1⟩; (have k0 : Blk w1 w.heap.size 23 #[.int .u64 g] := Blk.below (Blk.new rfl) B1 (by simp only [World.size_alloc]; omega)); (have BW := (bl_alloc (Below.refl w.heap.size w) (.cells #[.int .u64 g] 23)).trans (B1.mono (by simp only [World.size_alloc]; omega))); clear B1; replace BW := hide BW; replace k0 := hide k0)
      | (go_at_call 27; refine (unhide hF2 _ (unhide BW) (unhide k0)).mono ?_; rintro e w2 ⟨rfl, B2⟩; replace k0 := hide ((unhide k0).below B2 (unhide k0).lt); replace BW := hide ((unhide BW).trans (B2.mono (unhide BW).size)); (have c0 := (unhide k0).cell 0); simp at c0; (have y0 := (unhide k0).lt); clear B2))
    have hB1 := (unhide BW).size
    go_region_with ((go_at_call 31; refine (unhide hT _ _ (((unhide BW).alloc hB1 _)).drew (by simp) (by simp) (by simp) (by simp)).mono ?_; rintro e w3 ⟨v', rfl, O2, B3⟩))
    all_goals go_wp2
    all_goals go_ret
    all_goals exact ⟨v', rfl, ownsRow_mono O2 (by simp; omega), (((unhide BW).alloc hB1 _)).drew.trans (B3.mono (by simp; omega))⟩
end Go.Proofs.Ythjgnbjobinhdaa
