import Derived.Test.YtkgfmiicfegnlaaT12
namespace Go.Proofs.Ytkgfmiicfegnlaa
open Go.RowKit
attribute [local go_sem] bz_size bz_toList run_store_float
set_option maxRecDepth 100000

theorem one_fls {W : World} {g : Nat} {f : Fl} (h : Blk W g 26 #[.string (bz f.nm), .float .f64 f.rk, .int .u32 f.sm, .int .i64 f.bk, .int .i64 f.fr, .int .i64 f.ln]) : Fls 0 W.heap.size W (.slice (some ⟨g, 0, none⟩) 1 1) [f] :=
  ⟨_, 1, rfl, by simp, by omega, fun _ => ⟨g, 0, rfl, Nat.zero_le _, h.lt, fun i hi j u hu => by
    have hi : i = 0 := by simp at hi; omega
    subst hi
    rw [show 0 + 0 * 6 + j = j by omega, h.cell]
    rw [← fc_arr]; simpa using hu⟩⟩
theorem put_split {l : List Fl} (h : Up l) (f : Fl) : putF l f = l.take (posn l f.nm) ++ (f :: l.drop (posn l f.nm + if thereB l f.nm then 1 else 0)) := by
  unfold putF; rw [low_take h, high_drop h]
theorem together3 (lo hi : Nat) (c : Nat) (l : List Fl) (f : Fl) (i b : Nat) (A0 A2 : Option Addr) (c2 : Nat) (w : World) (hhi : hi ≤ w.heap.size) (hs : SmL l) (hf : SmF f) (hl8 : l.length ≤ 100000) (hi' : i ≤ b) (hb : b ≤ l.length)
    (z0 : Fls lo hi w (.slice A0 i c) (l.take i)) (z2 : Fls lo hi w (.slice A2 (l.length - b) c2) (l.drop b)) :
    ∀ W g g1, Below w.heap.size w W → g < W.heap.size → W.cell? ⟨g, 0, none⟩ = some (.slice A0 i c) → W.cell? ⟨g, 1, none⟩ = some (.slice (some ⟨g1, 0, none⟩) 1 1) → W.cell? ⟨g, 2, none⟩ = some (.slice A2 (l.length - b) c2) → Blk W g1 26 #[.string (bz f.nm), .float .f64 f.rk, .int .u32 f.sm, .int .i64 f.bk, .int .i64 f.fr, .int .i64 f.ln] →
      Calls Try.prog 51 #[.slice (some ⟨g, 0, none⟩) 3 3] W fun e w' => ∃ v, e = .returned v ∧ OwnF w' W.heap.size v (l.take i ++ (f :: l.drop b)) ∧ Below W.heap.size W w' := fun W g g1 hB hg c0 c1 c3 hq => by
  have e0 : (l.take i).length = i := by rw [List.length_take]; omega
  have e2 : (l.drop b).length = l.length - b := List.length_drop
  have hL : Lists 0 W g [l.take i, [f], l.drop b] := fun k hk => by
    have hk : k < 3 := hk
    match k, hk with
    | 0, _ => exact ⟨A0, c, by simp only [List.getElem_cons_zero]; rw [e0]; exact c0, by simp only [List.getElem_cons_zero]; rw [e0]; exact (z0.below hB hhi).mono (Nat.zero_le _) (Nat.le_trans hhi hB.size)⟩
    | 1, _ => exact ⟨_, 1, c1, one_fls hq⟩
    | 2, _ => exact ⟨A2, c2, by simp only [List.getElem_cons_succ, List.getElem_cons_zero]; rw [e2]; exact c3, by simp only [List.getElem_cons_succ, List.getElem_cons_zero]; rw [e2]; exact (z2.below hB hhi).mono (Nat.zero_le _) (Nat.le_trans hhi hB.size)⟩
  have hcat : cat [l.take i, [f], l.drop b] 3 = l.take i ++ (f :: l.drop b) := by simp [cat]
  have := together_any 0 g _ W hL hg (by simp) (by unfold upto; simp; omega) (fun x hx => by
    rw [show [l.take i, [f], l.drop b].length = 3 from rfl, hcat] at hx
    rcases List.mem_append.1 hx with hx | hx
    · have := (hs x (List.mem_of_mem_take hx)).1; omega
    · rcases List.mem_cons.1 hx with rfl | hx
      · have := hf.1; omega
      · have := (hs x (List.mem_of_mem_drop hx)).1; omega)
  rw [show [l.take i, [f], l.drop b].length = 3 from rfl, hcat] at this
  exact this

set_option maxHeartbeats 2000000 in
theorem with_any (lo hi : Nat) (v : Value) (l : List Fl) (f : Fl) (w : World) (h : Fls lo hi w v l) (hhi : hi ≤ w.heap.size) (hs : SmL l) (hf : SmF f) (hU : tabB l = true) (hk : nameB f.nm = true) :
    Calls Try.prog 35 #[v, (.agg #[.string (bz f.nm), .float .f64 f.rk, .int .u32 f.sm, .int .i64 f.bk, .int .i64 f.fr, .int .i64 f.ln])] w fun e w' => ∃ v', e = .returned v' ∧ OwnF w' w.heap.size v' (putF l f) ∧ Below w.heap.size w w' := by
  have hF := fun W (hB : Below w.heap.size w W) => find_any lo hi v l f.nm W (h.below hB hhi) (Nat.le_trans hhi hB.size) hs (by have := hf.1; omega) hU hk
  have hl8 : l.length ≤ 100000 := by have := tab_len hU; omega
  have hps := put_split (tab_up hU) f
  have hpl := posn_le (l := l) f.nm
  have hpg := fun ht => (posn_get (l := l) (p := f.nm) (tab_up hU) ht).1
  have hh := h
  obtain ⟨A, c, rfl, h1, h2, h3⟩ := hh
  clear h3
  obtain ⟨i, hi'⟩ : ∃ i, i = posn l f.nm := ⟨_, rfl⟩
  rw [← hi'] at hF hps hpl hpg
  clear hi'
  obtain ⟨A0, s0, z0⟩ := h.part6 0 i (by omega) (by omega)
  rw [List.drop_zero, Nat.sub_zero, Nat.sub_zero] at z0
  rw [Nat.sub_zero, Nat.sub_zero] at s0
  have t0 := fslice_h A l.length c i (by omega)
  rw [s0] at t0
  rw [hps]
  cases ht : thereB l f.nm with
  | true =>
    rw [ht] at hF
    have hlt := hpg ht
    rw [if_pos rfl]
    obtain ⟨A2, s2, z2⟩ := h.part6 (i + 1) l.length (by omega) (by omega)
    rw [List.take_of_length_le (by rw [List.length_drop]; omega)] at z2
    have t2 := fslice_l A l.length c (i + 1) (by omega)
    rw [s2] at t2
    have hT := together3 lo hi c l f i (i + 1) A0 A2 (c - (i + 1)) w hhi hs hf hl8 (by omega) (by omega) z0 z2
    simp only [show ((i + 1 : Nat) : Int) = (i : Int) + 1 by omega] at t2
    have iw : IntKind.i64.wrap ((i : Int) + 1) = (i : Int) + 1 := IntWalk.i64_in _ (by omega)
    obtain ⟨m, hm⟩ : ∃ m, m = l.take i ++ (f :: l.drop (i + 1)) := ⟨_, rfl⟩
    rw [← hm] at hT ⊢
    clear h z0 z2 s0 s2 hs hm ht hps hpg hl8 hU hk hf
    generalize l.length - (i + 1) = n2 at *
    generalize c - (i + 1) = c2 at *
    generalize l.length = n at *
    replace hT := hide hT; replace h1 := hide h1; replace hF := hide hF
    go_enter Try.func35, Try.ntmps35
    go_upto_region 5 with ((go_at_call 34; refine (unhide hF _ (by (repeat (first | with_reducible exact Below.refl _ _ | with_reducible assumption | with_reducible refine Below.drew ?_ | with_reducible refine bl_alloc ?_ _ | with_reducible refine bl_call ?_ (by assumption) | (focus (with_reducible refine Below.setCell ?_ ?_ _; rotate_left; focus (first | omega | (simp <;> omega)))) | fail)))).mono ?_; rintro e w1 ⟨rfl, B1⟩; (have q0 : Blk w1 w.heap.size 26 #[.string (bz f.nm), .float .f64 f.rk, .int .u32 f.sm, .int .i64 f.bk, .int .i64 f.fr, .int .i64 f.ln] := Blk.below (Blk.new rfl) B1 (by simp only [World.size_alloc]; omega)); obtain ⟨c0, c1, c3, c4, c5, c6⟩ := bk6 q0; replace q0 := hide q0; (have BW := (bl_alloc (Below.refl w.heap.size w) (.cells #[.string (bz f.nm), .float .f64 f.rk, .int .u32 f.sm, .int .i64 f.bk, .int .i64 f.fr, .int .i64 f.ln] 26)).trans (B1.mono (by simp only [World.size_alloc]; omega))); replace BW := hide BW; replace B1 := hide B1))
    have hB1 := (unhide BW).size
    have hlt1 : w.heap.size < w1.heap.size := (unhide q0).lt
    go_region_with ((go_at_call 51; refine (unhide hT _ _ w1.heap.size (((unhide BW).alloc hB1 _).alloc (by simp; omega) _).drew (by simp) (by simp) (by simp) (by simp) (Blk.drew (Blk.alloc (Blk.new rfl) _))).mono ?_; rintro e w2 ⟨v', rfl, O2, B2⟩))
    all_goals go_wp2
    all_goals go_ret
    all_goals exact ⟨v', rfl, ownsRow_mono O2 (by simp; omega), (((unhide BW).alloc hB1 _).alloc (by simp; omega) _).drew.trans (B2.mono (by simp; omega))⟩
  | false =>
    rw [ht] at hF
    rw [if_neg (by simp), Nat.add_zero]
    obtain ⟨A2, s2, z2⟩ := h.part6 i l.length (by omega) (by omega)
    rw [List.take_of_length_le (by rw [List.length_drop]; omega)] at z2
    have t2 := fslice_l A l.length c i (by omega)
    rw [s2] at t2
    have hT := together3 lo hi c l f i i A0 A2 (c - i) w hhi hs hf hl8 (by omega) (by omega) z0 z2
    obtain ⟨m, hm⟩ : ∃ m, m = l.take i ++ (f :: l.drop i) := ⟨_, rfl⟩
    rw [← hm] at hT ⊢
    clear h z0 z2 s0 s2 hs hm ht hps hpg hl8 hU hk hf
    generalize l.length - i = n2 at *
    generalize c - i = c2 at *
    generalize l.length = n at *
    replace hT := hide hT; replace h1 := hide h1; replace hF := hide hF
    go_enter Try.func35, Try.ntmps35
    go_upto_region 5 with ((go_at_call 34; refine (unhide hF _ (by (repeat (first | with_reducible exact Below.refl _ _ | with_reducible assumption | with_reducible refine Below.drew ?_ | with_reducible refine bl_alloc ?_ _ | with_reducible refine bl_call ?_ (by assumption) | (focus (with_reducible refine Below.setCell ?_ ?_ _; rotate_left; focus (first | omega | (simp <;> omega)))) | fail)))).mono ?_; rintro e w1 ⟨rfl, B1⟩; (have q0 : Blk w1 w.heap.size 26 #[.string (bz f.nm), .float .f64 f.rk, .int .u32 f.sm, .int .i64 f.bk, .int .i64 f.fr, .int .i64 f.ln] := Blk.below (Blk.new rfl) B1 (by simp only [World.size_alloc]; omega)); obtain ⟨c0, c1, c3, c4, c5, c6⟩ := bk6 q0; replace q0 := hide q0; (have BW := (bl_alloc (Below.refl w.heap.size w) (.cells #[.string (bz f.nm), .float .f64 f.rk, .int .u32 f.sm, .int .i64 f.bk, .int .i64 f.fr, .int .i64 f.ln] 26)).trans (B1.mono (by simp only [World.size_alloc]; omega))); replace BW := hide BW; replace B1 := hide B1))
    have hB1 := (unhide BW).size
    have hlt1 : w.heap.size < w1.heap.size := (unhide q0).lt
    go_region_with ((go_at_call 51; refine (unhide hT _ _ w1.heap.size (((unhide BW).alloc hB1 _).alloc (by simp; omega) _).drew (by simp) (by simp) (by simp) (by simp) (Blk.drew (Blk.alloc (Blk.new rfl) _))).mono ?_; rintro e w2 ⟨v', rfl, O2, B2⟩))
    all_goals go_wp2
    all_goals go_ret
    all_goals exact ⟨v', rfl, ownsRow_mono O2 (by simp; omega), (((unhide BW).alloc hB1 _).alloc (by simp; omega) _).drew.trans (B2.mono (by simp; omega))⟩
end Go.Proofs.Ytkgfmiicfegnlaa
