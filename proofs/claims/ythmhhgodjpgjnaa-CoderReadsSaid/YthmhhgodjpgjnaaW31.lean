import Derived.Test.YthmhhgodjpgjnaaW30
namespace Go.Proofs.Ythmhhgodjpgjnaa
open Go.RowKit

section
variable {base g gc cc gt ct : Nat} {w w' : World} {r : Rdr} {t : List Int}
theorem Rdg.alloc (h : Rdg base g gc cc gt ct w r t) (o : Obj) : Rdg base g gc cc gt ct (w.alloc o) r t := ⟨h.blk.alloc o, h.c.alloc o, h.text.alloc o⟩
theorem Rdg.drew (h : Rdg base g gc cc gt ct w r t) : Rdg base g gc cc gt ct w.drew r t := ⟨h.blk.drew, own_drew h.c, own_drew h.text⟩
theorem Rdg.drewN (h : Rdg base g gc cc gt ct w r t) (n : Nat) : Rdg base g gc cc gt ct (w.drewN n) r t := ⟨h.blk.drewN n, h.c, h.text⟩
theorem Rdg.below (h : Rdg base g gc cc gt ct w r t) (hb : Below w.heap.size w w') : Rdg base g gc cc gt ct w' r t := ⟨h.blk.below hb h.blk.lt, own_below h.c hb (Nat.le_refl _), own_below h.text hb (Nat.le_refl _)⟩
end
/-- An own row's block, and another one's: they differ. -/
theorem own_ne2 {w : World} {base base' : Nat} {e e' : TypeId} {s s' g g' n n' c c' : Nat} {xs xs' : List Value} (h : w.ownsRow base e s (.slice (some ⟨g, 0, none⟩) n c) n xs) (h' : w.ownsRow base' e' s' (.slice (some ⟨g', 0, none⟩) n' c') n' xs') (hne : e ≠ e') : g ≠ g' := by
  intro q
  subst q
  exact own_own h h' hne g rfl rfl

set_option maxHeartbeats 2000000 in
theorem Next_none (base g gc cc gt ct : Nat) (i : Int) (r : Rdr) (t : List Int) (w : World) (hW : Rdg base g gc cc gt ct w r t) (hi : ¬ (0 ≤ i ∧ i < r.c.length)) :
    Calls Try.prog 18 #[.pointer (some ⟨g, 0, none⟩), .int .i64 i] w fun e w' => e = .returned (.tuple #[.bool false, .int .i64 4]) ∧ w = w' := by
  have hH := fun W h => has_any g r.c.length (some ⟨gc, 0, none⟩) cc i W h
  have e : (decide (0 ≤ i) && decide (i < r.c.length)) = false := by simp; omega
  rw [e] at hH
  have c1 : w.cell? ⟨g, 1, none⟩ = some (.slice (some ⟨gc, 0, none⟩) r.c.length cc) := hW.blk.cell 1
  clear hi e hW
  replace hH := hide hH
  go_enter Try.func18, Try.ntmps18
  go_wp2_with (first
    | (go_at_call 25; refine (unhide hH _ c1).mono ?_; rintro e w1 ⟨rfl, rfl⟩)
    | fail)
  go_ret2
  exact ⟨rfl, rfl⟩

set_option maxHeartbeats 4000000 in
theorem Next_true (base g gc cc gt ct k : Nat) (r : Rdr) (t : List Int) (w : World) (hW : Rdg base g gc cc gt ct w r t) (hk : k < r.c.length) (h : OkR r) (ht : okB t) (hl : t.length ≤ 1000000) (hu : r.used ≤ t.length) (hb : bitR r k = true) :
    Calls Try.prog 18 #[.pointer (some ⟨g, 0, none⟩), .int .i64 k] w fun e w' => e = .returned (.tuple #[.bool (nextR t r k).1, .int .i64 (nextR t r k).2.2]) ∧ Rdg base g gc cc gt ct w' (nextR t r k).2.1 t ∧ But [g, gc] w w' := by
  have hn := nextR_in (t := t) (r := r) (i := (k : Int)) ⟨by omega, by omega⟩
  obtain ⟨X, hX⟩ : ∃ X, X = nextR t r k := ⟨_, rfl⟩
  rw [← hX]
  obtain ⟨o, ho⟩ : ∃ o, o = t.getD r.used 0 := ⟨_, rfl⟩
  rw [hn, hb, ← ho] at hX
  replace ho := hide ho
  clear hn
  obtain ⟨a1, a2, a3, a4⟩ := half_ok h (i := (k : Int)) (by omega) (by omega)
  have hpo := part_ok h.c (i := (k : Int)) (by omega) (by omega) h.span
  have hx := (own_cell hW.c k hk).trans (ivc_at r.c k hk)
  have hpc := (okC_iff.1 h.c).2 _ (List.getElem_mem hk)
  have hpp : partP r.span r.c (k : Int) = r.span / 2048 * r.c[k] := by unfold partP; rw [Int.toNat_natCast, getD_get hk]
  have hP := fun W (a : W.cell? ⟨g, 0, none⟩ = some (.int .u32 r.span)) (b : W.cell? ⟨g, 1, none⟩ = some (.slice (some ⟨gc, 0, none⟩) r.c.length cc)) (c : W.cell? ⟨gc, k, none⟩ = some (.int .i64 r.c[k])) => part_any g gc r.c.length cc k r.span r.c[k] W a b hk c h.span hpc
  rw [← hpp] at hP
  have hsp := h.span
  have hco := h.code
  have hH := fun W h => has_any g r.c.length (some ⟨gc, 0, none⟩) cc k W h
  have e : (decide (0 ≤ (k : Int)) && decide ((k : Int) < r.c.length)) = true := by simp; omega
  rw [e] at hH
  have hLn := fun W a b => learn_any g gc cc k base r.c true W a hk b h.c
  have hcod : codeR r k = r.code - partP r.span r.c (k : Int) := by unfold codeR; rw [hb]; simp only [if_true]
  have hspn : spanR r k = r.span - partP r.span r.c (k : Int) := by unfold spanR; rw [hb]; simp only [if_true]
  have hdec : decide (partP r.span r.c (k : Int) ≤ r.code) = true := hb
  have hLf : ∀ W, W.cell? ⟨g, 0, none⟩ = some (.int .u32 r.span) → Calls Try.prog 35 #[.pointer (some ⟨g, 0, none⟩), .int .u32 (partP r.span r.c (k : Int)), .bool true] W fun e w' => e = .returned (.int .u32 (spanR r k)) ∧ W = w' := fun W a => by rw [hspn]; exact left_any g r.span (partP r.span r.c (k : Int)) true W a (by omega) (by omega)
  have d0 : w.cell? ⟨g, 0, none⟩ = some (.int .u32 r.span) := hW.blk.cell 0
  have d1 : w.cell? ⟨g, 1, none⟩ = some (.slice (some ⟨gc, 0, none⟩) r.c.length cc) := hW.blk.cell 1
  have d2 : w.cell? ⟨g, 2, none⟩ = some (.slice (some ⟨gt, 0, none⟩) t.length ct) := hW.blk.cell 2
  have d3 : w.cell? ⟨g, 3, none⟩ = some (.int .i64 r.used) := hW.blk.cell 3
  have d4 : w.cell? ⟨g, 4, none⟩ = some (.int .u32 r.code) := hW.blk.cell 4
  generalize hS : spanR r k = S at *
  generalize hC : codeR r k = C at *
  have i1 : IntKind.u32.wrap (r.code - partP r.span r.c (k : Int)) = r.code - partP r.span r.c (k : Int) ∨ true = false := by first | exact .inr rfl | exact .inl (IntWalk.u32_in _ (by have := of_decide_eq_true hdec; omega))
  generalize partP r.span r.c (k : Int) = z at *
  generalize r.c[k] = p at *
  clear hpp hpc hb e hS hC hspn
  replace hP := hide hP; replace hH := hide hH; replace hLf := hide hLf; replace hLn := hide hLn; replace hW := hide hW; replace hcod := hide hcod; replace h := hide h; replace ht := hide ht; replace hpo := hide hpo; replace hX := hide hX
  go_enter Try.func18, Try.ntmps18
  go_wp2_with (first
    | (go_at_call 25; refine (unhide hH _ d1).mono ?_; rintro e w1 ⟨rfl, rfl⟩)
    | (go_at_call 34; refine (unhide hP _ d0 d1 hx).mono ?_; rintro e w1 ⟨rfl, m, hm⟩; replace hm := hide hm)
    | fail)
  have hW1 := (unhide hW).drewN m
  have hB1 := (But.refl [g, gc] w).drewN m
  rw [← unhide hm] at hW1 hB1
  clear hm hW d0 d1 d2 d3 d4 hx
  have d3 : w1.cell? ⟨g, 3, none⟩ = some (.int .i64 r.used) := hW1.blk.cell 3
  have d4 : w1.cell? ⟨g, 4, none⟩ = some (.int .u32 r.code) := hW1.blk.cell 4
  replace hW1 := hide hW1; replace hB1 := hide hB1
  go_quiet (fail)
  have hW2 := (unhide hW1).drewN nq
  have hB2 := (unhide hB1).drewN nq
  generalize w1.drewN nq = w2 at *
  clear hW1 hB1 d3 d4
  have d0 : w2.cell? ⟨g, 0, none⟩ = some (.int .u32 r.span) := hW2.blk.cell 0
  have d2 : w2.cell? ⟨g, 2, none⟩ = some (.slice (some ⟨gt, 0, none⟩) t.length ct) := hW2.blk.cell 2
  replace hW2 := hide hW2; replace hB2 := hide hB2
  have i2 : IntKind.u32.wrap (r.code - z) = r.code - z := by rcases i1 with h | h; exact h; cases h
  clear i1
  go_wp2_with (first
    | (go_at_call 35; refine (unhide hLf _ d0).mono ?_; rintro e w1 ⟨rfl, rfl⟩)
    | fail)
  have hgt := own_ne2 (unhide hW2).text (unhide hW2).c (by decide)
  have hgl := (unhide hW2).blk.lt
  have hg1 : g ≠ gt := fun e => own_not (unhide hW2).text (by decide : (5 : TypeId) ≠ 79) (e ▸ (unhide hW2).blk)
  have hg2 : g ≠ gc := fun e => own_not (unhide hW2).c (by decide : (3 : TypeId) ≠ 79) (e ▸ (unhide hW2).blk)
  replace hgt := hide hgt; replace hg1 := hide hg1; replace hg2 := hide hg2
  clear i2 d0
  go_loopw [7, 8, 10] (fun c u s wr => ((c = .int .u32 C ∧ u = .int .i64 r.used ∧ s = .int .u32 S) ∨ (S < 16777216 ∧ r.used < t.length ∧ c = .int .u32 (C * 256 + o) ∧ u = .int .i64 ((r.used : Int) + 1) ∧ s = .int .u32 (S * 256))) ∧ w2 = wr) (fun _ _ s _ => (4294967296 - intOf s).toNat)
  case atStart => exact ⟨.inl ⟨by rw [unhide hcod], rfl, rfl⟩, rfl⟩
  case round =>
    obtain ⟨hcase, rfl⟩ := hrel
    rcases hcase with ⟨rfl, rfl, rfl⟩ | ⟨hlt, hul, rfl, rfl, rfl⟩
    · by_cases hlt : S < 16777216
      · by_cases hul : r.used < t.length
        · have q0 := (own_cell (unhide hW2).text r.used hul).trans (byc_at t r.used hul)
          have hb8 := (unhide ht) t[r.used] (List.getElem_mem hul)
          have hgd : t.getD r.used 0 = t[r.used] := getD_get hul
          rw [← hgd, ← unhide ho] at q0 hb8
          have j1 := or_oct (a := C) (b := o) (by omega) hb8
          have j2 : IntKind.u32.wrap (C * 256) = C * 256 := IntWalk.u32_in _ (by omega)
          have j3 : IntKind.u32.wrap o = o := IntWalk.u32_in _ (by omega)
          have j4 : IntKind.u32.wrap (S * 256) = S * 256 := IntWalk.u32_in _ (by omega)
          have j5 : IntKind.i64.wrap ((r.used : Int) + 1) = (r.used : Int) + 1 := IntWalk.i64_in _ (by omega)
          have j6 : ((r.used : Int) == (t.length : Int)) = false := by rw [beq_eq_false_iff_ne]; omega
          have j7 : (0 : Int) ≤ (r.used : Int) := by omega
          have j8 : (r.used : Int) < (t.length : Int) := by omega
          clear hb8 hgd
          go_wp2_with fail
          clear j1 j2 j3 j4 j5 j6
          go_roundw
          case rel => exact ⟨.inr ⟨hlt, hul, rfl, rfl, rfl⟩, by first | rfl | trivial⟩
          case measure => simp [intOf]; omega
        · have e : r.used = t.length := by omega
          have j6 : ((r.used : Int) == (t.length : Int)) = true := by rw [e]; simp
          have hX' := unhide hX
          rw [if_pos hlt, if_neg hul] at hX'
          replace hX' := hide hX'
          clear e
          go_wp2_with fail
          go_ret2
          rw [unhide hX']
          exact ⟨rfl, unhide hW2, unhide hB2⟩
      · have hX' := unhide hX
        rw [if_neg hlt] at hX'
        replace hX' := hide hX'
        have K3 := (((unhide hW2).blk.set 4 (.int .u32 C)).set 3 (.int .i64 (r.used : Int))).set 0 (.int .u32 S)
        simp only [List.setIfInBounds_toArray, List.set_cons_succ, List.set_cons_zero] at K3
        have o3 := own_far (own_far (own_far (unhide hW2).c (unhide hW2).blk (by decide) 4 (.int .u32 C)) ((unhide hW2).blk.set 4 _) (by decide) 3 (.int .i64 (r.used : Int))) (((unhide hW2).blk.set 4 _).set 3 _) (by decide) 0 (.int .u32 S)
        have t3 := own_far (own_far (own_far (unhide hW2).text (unhide hW2).blk (by decide) 4 (.int .u32 C)) ((unhide hW2).blk.set 4 _) (by decide) 3 (.int .i64 (r.used : Int))) (((unhide hW2).blk.set 4 _).set 3 _) (by decide) 0 (.int .u32 S)
        have B3 := (((unhide hB2).set (p := ⟨g, 4, none⟩) (by simp) (.int .u32 C)).set (p := ⟨g, 3, none⟩) (by simp) (.int .i64 (r.used : Int))).set (p := ⟨g, 0, none⟩) (by simp) (.int .u32 S)
        have f4 := (unhide hW2).blk.frozen 4
        have f3 := (unhide hW2).blk.frozen 3
        have f0 := (unhide hW2).blk.frozen 0
        have x4 := (unhide hW2).blk.cell 4
        have x3 := (unhide hW2).blk.cell 3
        have x0 := (unhide hW2).blk.cell 0
        simp at x4 x3 x0
        have e1 : (((w2.setCell ⟨g, 4, none⟩ (.int .u32 C)).setCell ⟨g, 3, none⟩ (.int .i64 (r.used : Int))).setCell ⟨g, 0, none⟩ (.int .u32 S)).cell? ⟨g, 1, none⟩ = some (.slice (some ⟨gc, 0, none⟩) r.c.length cc) := K3.cell 1
        replace K3 := hide K3; replace o3 := hide o3; replace t3 := hide t3; replace B3 := hide B3; replace e1 := hide e1
        clear hW2 hB2 d2
        go_wp2_with (first
          | (go_at_call 36; refine (unhide hLn _ (unhide e1) (unhide o3)).mono ?_; rintro e w5 ⟨rfl, r5, B5⟩; replace r5 := hide r5; replace B5 := hide B5)
          | fail)
        go_ret2
        rw [unhide hX']
        have K5 := (unhide K3).but (unhide B5) (by simp [unhide hg2])
        have t5 := own_but (unhide t3) (unhide B5) (fun q hq cs hcs => by
          simp only [List.mem_cons, List.not_mem_nil, or_false] at hq
          subst hq
          exact own_not (unhide o3) (by decide : (3 : TypeId) ≠ 5) hcs)
        exact ⟨rfl, ⟨by rw [stepA_len]; exact K5, by rw [stepA_len]; exact unhide r5, t5⟩, (unhide B3).trans ((unhide B5).mono (by simp))⟩
    · have hge : decide (S * 256 < 16777216) = false := by simp; omega
      have hX' := unhide hX
      rw [if_pos hlt, if_pos hul] at hX'
      replace hX' := hide hX'
      have K3 := (((unhide hW2).blk.set 4 (.int .u32 (C * 256 + o))).set 3 (.int .i64 ((r.used : Int) + 1))).set 0 (.int .u32 (S * 256))
      simp only [List.setIfInBounds_toArray, List.set_cons_succ, List.set_cons_zero] at K3
      have o3 := own_far (own_far (own_far (unhide hW2).c (unhide hW2).blk (by decide) 4 (.int .u32 (C * 256 + o))) ((unhide hW2).blk.set 4 _) (by decide) 3 (.int .i64 ((r.used : Int) + 1))) (((unhide hW2).blk.set 4 _).set 3 _) (by decide) 0 (.int .u32 (S * 256))
      have t3 := own_far (own_far (own_far (unhide hW2).text (unhide hW2).blk (by decide) 4 (.int .u32 (C * 256 + o))) ((unhide hW2).blk.set 4 _) (by decide) 3 (.int .i64 ((r.used : Int) + 1))) (((unhide hW2).blk.set 4 _).set 3 _) (by decide) 0 (.int .u32 (S * 256))
      have B3 := (((unhide hB2).set (p := ⟨g, 4, none⟩) (by simp) (.int .u32 (C * 256 + o))).set (p := ⟨g, 3, none⟩) (by simp) (.int .i64 ((r.used : Int) + 1))).set (p := ⟨g, 0, none⟩) (by simp) (.int .u32 (S * 256))
      have f4 := (unhide hW2).blk.frozen 4
      have f3 := (unhide hW2).blk.frozen 3
      have f0 := (unhide hW2).blk.frozen 0
      have x4 := (unhide hW2).blk.cell 4
      have x3 := (unhide hW2).blk.cell 3
      have x0 := (unhide hW2).blk.cell 0
      simp at x4 x3 x0
      have e1 : (((w2.setCell ⟨g, 4, none⟩ (.int .u32 (C * 256 + o))).setCell ⟨g, 3, none⟩ (.int .i64 ((r.used : Int) + 1))).setCell ⟨g, 0, none⟩ (.int .u32 (S * 256))).cell? ⟨g, 1, none⟩ = some (.slice (some ⟨gc, 0, none⟩) r.c.length cc) := K3.cell 1
      replace K3 := hide K3; replace o3 := hide o3; replace t3 := hide t3; replace B3 := hide B3; replace e1 := hide e1
      clear hW2 hB2 d2
      go_wp2_with (first
        | (go_at_call 36; refine (unhide hLn _ (unhide e1) (unhide o3)).mono ?_; rintro e w5 ⟨rfl, r5, B5⟩; replace r5 := hide r5; replace B5 := hide B5)
        | fail)
      go_ret2
      rw [unhide hX']
      have K5 := (unhide K3).but (unhide B5) (by simp [unhide hg2])
      have t5 := own_but (unhide t3) (unhide B5) (fun q hq cs hcs => by
        simp only [List.mem_cons, List.not_mem_nil, or_false] at hq
        subst hq
        exact own_not (unhide o3) (by decide : (3 : TypeId) ≠ 5) hcs)
      exact ⟨rfl, ⟨by rw [stepA_len]; exact K5, by rw [stepA_len]; exact unhide r5, t5⟩, (unhide B3).trans ((unhide B5).mono (by simp))⟩

set_option maxHeartbeats 4000000 in
theorem Next_false (base g gc cc gt ct k : Nat) (r : Rdr) (t : List Int) (w : World) (hW : Rdg base g gc cc gt ct w r t) (hk : k < r.c.length) (h : OkR r) (ht : okB t) (hl : t.length ≤ 1000000) (hu : r.used ≤ t.length) (hb : bitR r k = false) :
    Calls Try.prog 18 #[.pointer (some ⟨g, 0, none⟩), .int .i64 k] w fun e w' => e = .returned (.tuple #[.bool (nextR t r k).1, .int .i64 (nextR t r k).2.2]) ∧ Rdg base g gc cc gt ct w' (nextR t r k).2.1 t ∧ But [g, gc] w w' := by
  have hn := nextR_in (t := t) (r := r) (i := (k : Int)) ⟨by omega, by omega⟩
  obtain ⟨X, hX⟩ : ∃ X, X = nextR t r k := ⟨_, rfl⟩
  rw [← hX]
  obtain ⟨o, ho⟩ : ∃ o, o = t.getD r.used 0 := ⟨_, rfl⟩
  rw [hn, hb, ← ho] at hX
  replace ho := hide ho
  clear hn
  obtain ⟨a1, a2, a3, a4⟩ := half_ok h (i := (k : Int)) (by omega) (by omega)
  have hpo := part_ok h.c (i := (k : Int)) (by omega) (by omega) h.span
  have hx := (own_cell hW.c k hk).trans (ivc_at r.c k hk)
  have hpc := (okC_iff.1 h.c).2 _ (List.getElem_mem hk)
  have hpp : partP r.span r.c (k : Int) = r.span / 2048 * r.c[k] := by unfold partP; rw [Int.toNat_natCast, getD_get hk]
  have hP := fun W (a : W.cell? ⟨g, 0, none⟩ = some (.int .u32 r.span)) (b : W.cell? ⟨g, 1, none⟩ = some (.slice (some ⟨gc, 0, none⟩) r.c.length cc)) (c : W.cell? ⟨gc, k, none⟩ = some (.int .i64 r.c[k])) => part_any g gc r.c.length cc k r.span r.c[k] W a b hk c h.span hpc
  rw [← hpp] at hP
  have hsp := h.span
  have hco := h.code
  have hH := fun W h => has_any g r.c.length (some ⟨gc, 0, none⟩) cc k W h
  have e : (decide (0 ≤ (k : Int)) && decide ((k : Int) < r.c.length)) = true := by simp; omega
  rw [e] at hH
  have hLn := fun W a b => learn_any g gc cc k base r.c false W a hk b h.c
  have hcod : codeR r k = r.code := by unfold codeR; rw [hb]; simp only [Bool.false_eq_true, if_false]
  have hspn : spanR r k = partP r.span r.c (k : Int) := by unfold spanR; rw [hb]; simp only [Bool.false_eq_true, if_false]
  have hdec : decide (partP r.span r.c (k : Int) ≤ r.code) = false := hb
  have hLf : ∀ W, W.cell? ⟨g, 0, none⟩ = some (.int .u32 r.span) → Calls Try.prog 35 #[.pointer (some ⟨g, 0, none⟩), .int .u32 (partP r.span r.c (k : Int)), .bool false] W fun e w' => e = .returned (.int .u32 (spanR r k)) ∧ W = w' := fun W a => by rw [hspn]; exact left_any g r.span (partP r.span r.c (k : Int)) false W a (by omega) (by omega)
  have d0 : w.cell? ⟨g, 0, none⟩ = some (.int .u32 r.span) := hW.blk.cell 0
  have d1 : w.cell? ⟨g, 1, none⟩ = some (.slice (some ⟨gc, 0, none⟩) r.c.length cc) := hW.blk.cell 1
  have d2 : w.cell? ⟨g, 2, none⟩ = some (.slice (some ⟨gt, 0, none⟩) t.length ct) := hW.blk.cell 2
  have d3 : w.cell? ⟨g, 3, none⟩ = some (.int .i64 r.used) := hW.blk.cell 3
  have d4 : w.cell? ⟨g, 4, none⟩ = some (.int .u32 r.code) := hW.blk.cell 4
  generalize hS : spanR r k = S at *
  generalize hC : codeR r k = C at *
  have i1 : IntKind.u32.wrap (r.code - partP r.span r.c (k : Int)) = r.code - partP r.span r.c (k : Int) ∨ false = false := by first | exact .inr rfl | exact .inl (IntWalk.u32_in _ (by have := of_decide_eq_true hdec; omega))
  generalize partP r.span r.c (k : Int) = z at *
  generalize r.c[k] = p at *
  clear hpp hpc hb e hS hC hspn
  replace hP := hide hP; replace hH := hide hH; replace hLf := hide hLf; replace hLn := hide hLn; replace hW := hide hW; replace hcod := hide hcod; replace h := hide h; replace ht := hide ht; replace hpo := hide hpo; replace hX := hide hX
  go_enter Try.func18, Try.ntmps18
  go_wp2_with (first
    | (go_at_call 25; refine (unhide hH _ d1).mono ?_; rintro e w1 ⟨rfl, rfl⟩)
    | (go_at_call 34; refine (unhide hP _ d0 d1 hx).mono ?_; rintro e w1 ⟨rfl, m, hm⟩; replace hm := hide hm)
    | fail)
  have hW1 := (unhide hW).drewN m
  have hB1 := (But.refl [g, gc] w).drewN m
  rw [← unhide hm] at hW1 hB1
  clear hm hW d0 d1 d2 d3 d4 hx
  have d3 : w1.cell? ⟨g, 3, none⟩ = some (.int .i64 r.used) := hW1.blk.cell 3
  have d4 : w1.cell? ⟨g, 4, none⟩ = some (.int .u32 r.code) := hW1.blk.cell 4
  replace hW1 := hide hW1; replace hB1 := hide hB1
  go_quiet (fail)
  have hW2 := (unhide hW1).drewN nq
  have hB2 := (unhide hB1).drewN nq
  generalize w1.drewN nq = w2 at *
  clear hW1 hB1 d3 d4
  have d0 : w2.cell? ⟨g, 0, none⟩ = some (.int .u32 r.span) := hW2.blk.cell 0
  have d2 : w2.cell? ⟨g, 2, none⟩ = some (.slice (some ⟨gt, 0, none⟩) t.length ct) := hW2.blk.cell 2
  replace hW2 := hide hW2; replace hB2 := hide hB2
  clear i1
  have i2 : True := trivial
  go_wp2_with (first
    | (go_at_call 35; refine (unhide hLf _ d0).mono ?_; rintro e w1 ⟨rfl, rfl⟩)
    | fail)
  have hgt := own_ne2 (unhide hW2).text (unhide hW2).c (by decide)
  have hgl := (unhide hW2).blk.lt
  have hg1 : g ≠ gt := fun e => own_not (unhide hW2).text (by decide : (5 : TypeId) ≠ 79) (e ▸ (unhide hW2).blk)
  have hg2 : g ≠ gc := fun e => own_not (unhide hW2).c (by decide : (3 : TypeId) ≠ 79) (e ▸ (unhide hW2).blk)
  replace hgt := hide hgt; replace hg1 := hide hg1; replace hg2 := hide hg2
  clear i2 d0
  go_loopw [7, 8, 10] (fun c u s wr => ((c = .int .u32 C ∧ u = .int .i64 r.used ∧ s = .int .u32 S) ∨ (S < 16777216 ∧ r.used < t.length ∧ c = .int .u32 (C * 256 + o) ∧ u = .int .i64 ((r.used : Int) + 1) ∧ s = .int .u32 (S * 256))) ∧ w2 = wr) (fun _ _ s _ => (4294967296 - intOf s).toNat)
  case atStart => exact ⟨.inl ⟨by rw [unhide hcod], rfl, rfl⟩, rfl⟩
  case round =>
    obtain ⟨hcase, rfl⟩ := hrel
    rcases hcase with ⟨rfl, rfl, rfl⟩ | ⟨hlt, hul, rfl, rfl, rfl⟩
    · by_cases hlt : S < 16777216
      · by_cases hul : r.used < t.length
        · have q0 := (own_cell (unhide hW2).text r.used hul).trans (byc_at t r.used hul)
          have hb8 := (unhide ht) t[r.used] (List.getElem_mem hul)
          have hgd : t.getD r.used 0 = t[r.used] := getD_get hul
          rw [← hgd, ← unhide ho] at q0 hb8
          have j1 := or_oct (a := C) (b := o) (by omega) hb8
          have j2 : IntKind.u32.wrap (C * 256) = C * 256 := IntWalk.u32_in _ (by omega)
          have j3 : IntKind.u32.wrap o = o := IntWalk.u32_in _ (by omega)
          have j4 : IntKind.u32.wrap (S * 256) = S * 256 := IntWalk.u32_in _ (by omega)
          have j5 : IntKind.i64.wrap ((r.used : Int) + 1) = (r.used : Int) + 1 := IntWalk.i64_in _ (by omega)
          have j6 : ((r.used : Int) == (t.length : Int)) = false := by rw [beq_eq_false_iff_ne]; omega
          have j7 : (0 : Int) ≤ (r.used : Int) := by omega
          have j8 : (r.used : Int) < (t.length : Int) := by omega
          clear hb8 hgd
          go_wp2_with fail
          clear j1 j2 j3 j4 j5 j6
          go_roundw
          case rel => exact ⟨.inr ⟨hlt, hul, rfl, rfl, rfl⟩, by first | rfl | trivial⟩
          case measure => simp [intOf]; omega
        · have e : r.used = t.length := by omega
          have j6 : ((r.used : Int) == (t.length : Int)) = true := by rw [e]; simp
          have hX' := unhide hX
          rw [if_pos hlt, if_neg hul] at hX'
          replace hX' := hide hX'
          clear e
          go_wp2_with fail
          go_ret2
          rw [unhide hX']
          exact ⟨rfl, unhide hW2, unhide hB2⟩
      · have hX' := unhide hX
        rw [if_neg hlt] at hX'
        replace hX' := hide hX'
        have K3 := (((unhide hW2).blk.set 4 (.int .u32 C)).set 3 (.int .i64 (r.used : Int))).set 0 (.int .u32 S)
        simp only [List.setIfInBounds_toArray, List.set_cons_succ, List.set_cons_zero] at K3
        have o3 := own_far (own_far (own_far (unhide hW2).c (unhide hW2).blk (by decide) 4 (.int .u32 C)) ((unhide hW2).blk.set 4 _) (by decide) 3 (.int .i64 (r.used : Int))) (((unhide hW2).blk.set 4 _).set 3 _) (by decide) 0 (.int .u32 S)
        have t3 := own_far (own_far (own_far (unhide hW2).text (unhide hW2).blk (by decide) 4 (.int .u32 C)) ((unhide hW2).blk.set 4 _) (by decide) 3 (.int .i64 (r.used : Int))) (((unhide hW2).blk.set 4 _).set 3 _) (by decide) 0 (.int .u32 S)
        have B3 := (((unhide hB2).set (p := ⟨g, 4, none⟩) (by simp) (.int .u32 C)).set (p := ⟨g, 3, none⟩) (by simp) (.int .i64 (r.used : Int))).set (p := ⟨g, 0, none⟩) (by simp) (.int .u32 S)
        have f4 := (unhide hW2).blk.frozen 4
        have f3 := (unhide hW2).blk.frozen 3
        have f0 := (unhide hW2).blk.frozen 0
        have x4 := (unhide hW2).blk.cell 4
        have x3 := (unhide hW2).blk.cell 3
        have x0 := (unhide hW2).blk.cell 0
        simp at x4 x3 x0
        have e1 : (((w2.setCell ⟨g, 4, none⟩ (.int .u32 C)).setCell ⟨g, 3, none⟩ (.int .i64 (r.used : Int))).setCell ⟨g, 0, none⟩ (.int .u32 S)).cell? ⟨g, 1, none⟩ = some (.slice (some ⟨gc, 0, none⟩) r.c.length cc) := K3.cell 1
        replace K3 := hide K3; replace o3 := hide o3; replace t3 := hide t3; replace B3 := hide B3; replace e1 := hide e1
        clear hW2 hB2 d2
        go_wp2_with (first
          | (go_at_call 36; refine (unhide hLn _ (unhide e1) (unhide o3)).mono ?_; rintro e w5 ⟨rfl, r5, B5⟩; replace r5 := hide r5; replace B5 := hide B5)
          | fail)
        go_ret2
        rw [unhide hX']
        have K5 := (unhide K3).but (unhide B5) (by simp [unhide hg2])
        have t5 := own_but (unhide t3) (unhide B5) (fun q hq cs hcs => by
          simp only [List.mem_cons, List.not_mem_nil, or_false] at hq
          subst hq
          exact own_not (unhide o3) (by decide : (3 : TypeId) ≠ 5) hcs)
        exact ⟨rfl, ⟨by rw [stepA_len]; exact K5, by rw [stepA_len]; exact unhide r5, t5⟩, (unhide B3).trans ((unhide B5).mono (by simp))⟩
    · have hge : decide (S * 256 < 16777216) = false := by simp; omega
      have hX' := unhide hX
      rw [if_pos hlt, if_pos hul] at hX'
      replace hX' := hide hX'
      have K3 := (((unhide hW2).blk.set 4 (.int .u32 (C * 256 + o))).set 3 (.int .i64 ((r.used : Int) + 1))).set 0 (.int .u32 (S * 256))
      simp only [List.setIfInBounds_toArray, List.set_cons_succ, List.set_cons_zero] at K3
      have o3 := own_far (own_far (own_far (unhide hW2).c (unhide hW2).blk (by decide) 4 (.int .u32 (C * 256 + o))) ((unhide hW2).blk.set 4 _) (by decide) 3 (.int .i64 ((r.used : Int) + 1))) (((unhide hW2).blk.set 4 _).set 3 _) (by decide) 0 (.int .u32 (S * 256))
      have t3 := own_far (own_far (own_far (unhide hW2).text (unhide hW2).blk (by decide) 4 (.int .u32 (C * 256 + o))) ((unhide hW2).blk.set 4 _) (by decide) 3 (.int .i64 ((r.used : Int) + 1))) (((unhide hW2).blk.set 4 _).set 3 _) (by decide) 0 (.int .u32 (S * 256))
      have B3 := (((unhide hB2).set (p := ⟨g, 4, none⟩) (by simp) (.int .u32 (C * 256 + o))).set (p := ⟨g, 3, none⟩) (by simp) (.int .i64 ((r.used : Int) + 1))).set (p := ⟨g, 0, none⟩) (by simp) (.int .u32 (S * 256))
      have f4 := (unhide hW2).blk.frozen 4
      have f3 := (unhide hW2).blk.frozen 3
      have f0 := (unhide hW2).blk.frozen 0
      have x4 := (unhide hW2).blk.cell 4
      have x3 := (unhide hW2).blk.cell 3
      have x0 := (unhide hW2).blk.cell 0
      simp at x4 x3 x0
      have e1 : (((w2.setCell ⟨g, 4, none⟩ (.int .u32 (C * 256 + o))).setCell ⟨g, 3, none⟩ (.int .i64 ((r.used : Int) + 1))).setCell ⟨g, 0, none⟩ (.int .u32 (S * 256))).cell? ⟨g, 1, none⟩ = some (.slice (some ⟨gc, 0, none⟩) r.c.length cc) := K3.cell 1
      replace K3 := hide K3; replace o3 := hide o3; replace t3 := hide t3; replace B3 := hide B3; replace e1 := hide e1
      clear hW2 hB2 d2
      go_wp2_with (first
        | (go_at_call 36; refine (unhide hLn _ (unhide e1) (unhide o3)).mono ?_; rintro e w5 ⟨rfl, r5, B5⟩; replace r5 := hide r5; replace B5 := hide B5)
        | fail)
      go_ret2
      rw [unhide hX']
      have K5 := (unhide K3).but (unhide B5) (by simp [unhide hg2])
      have t5 := own_but (unhide t3) (unhide B5) (fun q hq cs hcs => by
        simp only [List.mem_cons, List.not_mem_nil, or_false] at hq
        subst hq
        exact own_not (unhide o3) (by decide : (3 : TypeId) ≠ 5) hcs)
      exact ⟨rfl, ⟨by rw [stepA_len]; exact K5, by rw [stepA_len]; exact unhide r5, t5⟩, (unhide B3).trans ((unhide B5).mono (by simp))⟩

end Go.Proofs.Ythmhhgodjpgjnaa
