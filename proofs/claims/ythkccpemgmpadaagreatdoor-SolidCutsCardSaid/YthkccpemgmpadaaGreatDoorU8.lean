import Derived.Test.YthkccpemgmpadaaGreatDoorU7
import Derived.Laws.BitsAllLaws
namespace Go.Proofs.YthkccpemgmpadaaGreatDoor.P
set_option maxRecDepth 100000
open Go.RowKit
theorem or_oct {a b : Int} (ha : 0 ≤ a ∧ a < 16777216) (hb : 0 ≤ b ∧ b < 256) : bits .or .u32 (a * 256) b = a * 256 + b := by
  rw [u32_or _ _ (by omega) (by omega) (by omega) (by omega)]
  have h := Nat.shiftLeft_add_eq_or_of_lt (b := b.toNat) (i := 8) (by omega) a.toNat
  rw [Nat.shiftLeft_eq] at h
  have e : (a * 256).toNat = a.toNat * 2 ^ 8 := by omega
  rw [e, ← h]
  omega
structure Rdg (base g gc cc gt ct : Nat) (w : World) (r : Rdr) (t : List Int) : Prop where
  blk : Blk w g 157 #[.int .u32 r.span, .slice (some ⟨gc, 0, none⟩) r.c.length cc, .slice (some ⟨gt, 0, none⟩) t.length ct, .int .i64 r.used, .int .u32 r.code]
  c : w.ownsRow base 3 1 (.slice (some ⟨gc, 0, none⟩) r.c.length cc) r.c.length (r.c.flatMap ivc)
  text : w.ownsRow base 5 1 (.slice (some ⟨gt, 0, none⟩) t.length ct) t.length (t.flatMap byc)
set_option maxHeartbeats 400000 in
theorem Used_any (g : Nat) (z : Int) (w : World) (h : w.cell? ⟨g, 3, none⟩ = some (.int .i64 z)) : Calls Tryz.prog 110 #[.pointer (some ⟨g, 0, none⟩)] w fun e w' => e = .returned (.int .i64 z) ∧ w = w' := by
  go_enter Tryz.func110, Tryz.ntmps110
  go_wp2
  go_ret
  exact ⟨rfl, rfl⟩
set_option maxHeartbeats 4000000 in
theorem number_any (a b c d : Int) (ha : 0 ≤ a ∧ a < 256) (hb : 0 ≤ b ∧ b < 256) (hc : 0 ≤ c ∧ c < 256) (hd : 0 ≤ d ∧ d < 256) (w : World) :
    Calls Tryz.prog 127 #[.agg #[.int .u8 a, .int .u8 b, .int .u8 c, .int .u8 d]] w fun e w' => e = .returned (.int .u32 (num [a, b, c, d])) ∧ Below w.heap.size w w' := by
  have n4 : num [a, b, c, d] = ((a * 256 + b) * 256 + c) * 256 + d := by simp [num, numR]; omega
  rw [n4]
  go_enter Tryz.func127, Tryz.ntmps127
  go_wp2
  have o1 := or_oct (a := 0) (b := a) (by omega) ha
  have o2 := or_oct (a := a) (b := b) (by omega) hb
  have o3 := or_oct (a := a * 256 + b) (b := c) (by omega) hc
  have o4 := or_oct (a := (a * 256 + b) * 256 + c) (b := d) (by omega) hd
  rw [Int.zero_mul, Int.zero_add] at o1
  have w1 : IntKind.u32.wrap (a * 256) = a * 256 := IntWalk.u32_in _ (by omega)
  have w2 : IntKind.u32.wrap ((a * 256 + b) * 256) = (a * 256 + b) * 256 := IntWalk.u32_in _ (by omega)
  have w3 : IntKind.u32.wrap (((a * 256 + b) * 256 + c) * 256) = ((a * 256 + b) * 256 + c) * 256 := IntWalk.u32_in _ (by omega)
  have va : IntKind.u32.wrap a = a := IntWalk.u32_in _ (by omega)
  have vb : IntKind.u32.wrap b = b := IntWalk.u32_in _ (by omega)
  have vc : IntKind.u32.wrap c = c := IntWalk.u32_in _ (by omega)
  have vd : IntKind.u32.wrap d = d := IntWalk.u32_in _ (by omega)
  have x0 : ∀ W, (Instr.index 93 (.agg #[.int .u8 a, .int .u8 b, .int .u8 c, .int .u8 d]) (.int .i64 0)).run Tryz.prog W = .ok (.int .u8 a) W := fun W => by kernel_rfl
  have x1 : ∀ W, (Instr.index 93 (.agg #[.int .u8 a, .int .u8 b, .int .u8 c, .int .u8 d]) (.int .i64 1)).run Tryz.prog W = .ok (.int .u8 b) W := fun W => by kernel_rfl
  have x2 : ∀ W, (Instr.index 93 (.agg #[.int .u8 a, .int .u8 b, .int .u8 c, .int .u8 d]) (.int .i64 2)).run Tryz.prog W = .ok (.int .u8 c) W := fun W => by kernel_rfl
  have x3 : ∀ W, (Instr.index 93 (.agg #[.int .u8 a, .int .u8 b, .int .u8 c, .int .u8 d]) (.int .i64 3)).run Tryz.prog W = .ok (.int .u8 d) W := fun W => by kernel_rfl
  clear n4 ha hb hc hd
  go_loopw [3, 7] (fun n i wr => ((i = .int .i64 0 ∧ n = .int .u32 0) ∨ (i = .int .i64 1 ∧ n = .int .u32 a) ∨ (i = .int .i64 2 ∧ n = .int .u32 (a * 256 + b)) ∨ (i = .int .i64 3 ∧ n = .int .u32 ((a * 256 + b) * 256 + c)) ∨ (i = .int .i64 4 ∧ n = .int .u32 (((a * 256 + b) * 256 + c) * 256 + d))) ∧ Hid (Below w.heap.size w wr)) (fun _ i _ => 4 - (intOf i).toNat)
  case atStart => exact ⟨.inl ⟨rfl, rfl⟩, hide (by (repeat (first | with_reducible exact Below.refl _ _ | with_reducible assumption | with_reducible refine Below.drew ?_ | with_reducible refine bl_alloc ?_ _ | with_reducible refine bl_call ?_ (by assumption) | (focus (with_reducible refine Below.setCell ?_ ?_ _; rotate_left; focus (first | omega | (simp <;> omega)))) | fail)))⟩
  case round =>
    obtain ⟨hk, hB⟩ := hrel
    rcases hk with ⟨rfl, rfl⟩ | ⟨rfl, rfl⟩ | ⟨rfl, rfl⟩ | ⟨rfl, rfl⟩ | ⟨rfl, rfl⟩
    · go_wp2_with fail
      go_roundw
      case rel => exact ⟨.inr (.inl ⟨rfl, rfl⟩), hB⟩
      case measure => decide
    · go_wp2_with fail
      go_roundw
      case rel => exact ⟨.inr (.inr (.inl ⟨rfl, rfl⟩)), hB⟩
      case measure => decide
    · go_wp2_with fail
      go_roundw
      case rel => exact ⟨.inr (.inr (.inr (.inl ⟨rfl, rfl⟩))), hB⟩
      case measure => decide
    · go_wp2_with fail
      go_roundw
      case rel => exact ⟨.inr (.inr (.inr (.inr ⟨rfl, rfl⟩))), hB⟩
      case measure => decide
    · go_wp2_with fail
      go_ret
      exact ⟨rfl, unhide hB⟩
section
variable {base g gc cc gt ct : Nat} {w w' : World} {r : Rdr} {t : List Int}
theorem Rdg.alloc (h : Rdg base g gc cc gt ct w r t) (o : Obj) : Rdg base g gc cc gt ct (w.alloc o) r t := ⟨h.blk.alloc o, h.c.alloc o, h.text.alloc o⟩
theorem Rdg.drew (h : Rdg base g gc cc gt ct w r t) : Rdg base g gc cc gt ct w.drew r t := ⟨h.blk.drew, own_drew h.c, own_drew h.text⟩
theorem Rdg.drewN (h : Rdg base g gc cc gt ct w r t) (n : Nat) : Rdg base g gc cc gt ct (w.drewN n) r t := ⟨h.blk.drewN n, h.c, h.text⟩
theorem Rdg.below (h : Rdg base g gc cc gt ct w r t) (hb : Below w.heap.size w w') : Rdg base g gc cc gt ct w' r t := ⟨h.blk.below hb h.blk.lt, own_below h.c hb (Nat.le_refl _), own_below h.text hb (Nat.le_refl _)⟩
end
theorem own_ne2 {w : World} {base base' : Nat} {e e' : TypeId} {s s' g g' n n' c c' : Nat} {xs xs' : List Value} (h : w.ownsRow base e s (.slice (some ⟨g, 0, none⟩) n c) n xs) (h' : w.ownsRow base' e' s' (.slice (some ⟨g', 0, none⟩) n' c') n' xs') (hne : e ≠ e') : g ≠ g' := by
  intro q
  subst q
  exact own_own h h' hne g rfl rfl
set_option maxHeartbeats 2000000 in
theorem Next_none (base g gc cc gt ct : Nat) (i : Int) (r : Rdr) (t : List Int) (w : World) (hW : Rdg base g gc cc gt ct w r t) (hi : ¬ (0 ≤ i ∧ i < r.c.length)) :
    Calls Tryz.prog 128 #[.pointer (some ⟨g, 0, none⟩), .int .i64 i] w fun e w' => e = .returned (.tuple #[.bool false, .int .i64 4]) ∧ w = w' := by
  have hH := fun W h => has_any g r.c.length (some ⟨gc, 0, none⟩) cc i W h
  have e : (decide (0 ≤ i) && decide (i < r.c.length)) = false := by simp; omega
  rw [e] at hH
  have c1 : w.cell? ⟨g, 1, none⟩ = some (.slice (some ⟨gc, 0, none⟩) r.c.length cc) := hW.blk.cell 1
  clear hi e hW
  replace hH := hide hH
  go_enter Tryz.func128, Tryz.ntmps128
  go_wp2_with (first
    | (go_at_call 91; refine (unhide hH _ c1).mono ?_; rintro e w1 ⟨rfl, rfl⟩)
    | fail)
  go_ret2
  exact ⟨rfl, rfl⟩
set_option maxHeartbeats 4000000 in
theorem Next_true (base g gc cc gt ct k : Nat) (r : Rdr) (t : List Int) (w : World) (hW : Rdg base g gc cc gt ct w r t) (hk : k < r.c.length) (h : OkR r) (ht : okB t) (hl : t.length ≤ 1000000) (hu : r.used ≤ t.length) (hb : bitR r k = true) :
    Calls Tryz.prog 128 #[.pointer (some ⟨g, 0, none⟩), .int .i64 k] w fun e w' => e = .returned (.tuple #[.bool (nextR t r k).1, .int .i64 (nextR t r k).2.2]) ∧ Rdg base g gc cc gt ct w' (nextR t r k).2.1 t ∧ But [g, gc] w w' := by
  have hn := nextR_in (t := t) (r := r) (i := (k : Int)) ⟨by omega, by omega⟩
  obtain ⟨X, hX⟩ : ∃ X, X = nextR t r k := ⟨_, rfl⟩
  rw [← hX]
  obtain ⟨o, ho⟩ : ∃ o, o = t.getD r.used 0 := ⟨_, rfl⟩
  rw [hn, hb, ← ho] at hX
  replace ho := hide ho
  clear hn
  obtain ⟨a1, a2, a3, a4⟩ := half_ok h (i := (k : Int)) (by omega) (by omega)
  have hpo := part_ok h.c (i := (k : Int)) (by omega) (by omega) h.span
  have hx := (own_cell hW.c k hk).trans (ivc_at r.c k hk)
  have hpc := (okC_iff.1 h.c).2 _ (List.getElem_mem hk)
  have hpp : partP r.span r.c (k : Int) = r.span / 2048 * r.c[k] := by unfold partP; rw [Int.toNat_natCast, getD_get hk]
  have hP := fun W (a : W.cell? ⟨g, 0, none⟩ = some (.int .u32 r.span)) (b : W.cell? ⟨g, 1, none⟩ = some (.slice (some ⟨gc, 0, none⟩) r.c.length cc)) (c : W.cell? ⟨gc, k, none⟩ = some (.int .i64 r.c[k])) => part_any g gc r.c.length cc k r.span r.c[k] W a b hk c h.span hpc
  rw [← hpp] at hP
  have hsp := h.span
  have hco := h.code
  have hH := fun W h => has_any g r.c.length (some ⟨gc, 0, none⟩) cc k W h
  have e : (decide (0 ≤ (k : Int)) && decide ((k : Int) < r.c.length)) = true := by simp; omega
  rw [e] at hH
  have hLn := fun W a b => learn_any g gc cc k base r.c true W a hk b h.c
  have hcod : codeR r k = r.code - partP r.span r.c (k : Int) := by unfold codeR; rw [hb]; simp only [if_true]
  have hspn : spanR r k = r.span - partP r.span r.c (k : Int) := by unfold spanR; rw [hb]; simp only [if_true]
  have hdec : decide (partP r.span r.c (k : Int) ≤ r.code) = true := hb
  have hLf : ∀ W, W.cell? ⟨g, 0, none⟩ = some (.int .u32 r.span) → Calls Tryz.prog 121 #[.pointer (some ⟨g, 0, none⟩), .int .u32 (partP r.span r.c (k : Int)), .bool true] W fun e w' => e = .returned (.int .u32 (spanR r k)) ∧ W = w' := fun W a => by rw [hspn]; exact left_any g r.span (partP r.span r.c (k : Int)) true W a (by omega) (by omega)
  have d0 : w.cell? ⟨g, 0, none⟩ = some (.int .u32 r.span) := hW.blk.cell 0
  have d1 : w.cell? ⟨g, 1, none⟩ = some (.slice (some ⟨gc, 0, none⟩) r.c.length cc) := hW.blk.cell 1
  have d2 : w.cell? ⟨g, 2, none⟩ = some (.slice (some ⟨gt, 0, none⟩) t.length ct) := hW.blk.cell 2
  have d3 : w.cell? ⟨g, 3, none⟩ = some (.int .i64 r.used) := hW.blk.cell 3
  have d4 : w.cell? ⟨g, 4, none⟩ = some (.int .u32 r.code) := hW.blk.cell 4
  generalize hS : spanR r k = S at *
  generalize hC : codeR r k = C at *
  have i1 : IntKind.u32.wrap (r.code - partP r.span r.c (k : Int)) = r.code - partP r.span r.c (k : Int) ∨ true = false := by first | exact .inr rfl | exact .inl (IntWalk.u32_in _ (by have := of_decide_eq_true hdec; omega))
  generalize partP r.span r.c (k : Int) = z at *
  generalize r.c[k] = p at *
  clear hpp hpc hb e hS hC hspn
  replace hP := hide hP; replace hH := hide hH; replace hLf := hide hLf; replace hLn := hide hLn; replace hW := hide hW; replace hcod := hide hcod; replace h := hide h; replace ht := hide ht; replace hpo := hide hpo; replace hX := hide hX
  go_enter Tryz.func128, Tryz.ntmps128
  go_wp2_with (first
    | (go_at_call 91; refine (unhide hH _ d1).mono ?_; rintro e w1 ⟨rfl, rfl⟩)
    | (go_at_call 119; refine (unhide hP _ d0 d1 hx).mono ?_; rintro e w1 ⟨rfl, m, hm⟩; replace hm := hide hm)
    | fail)
  have hW1 := (unhide hW).drewN m
  have hB1 := (But.refl [g, gc] w).drewN m
  rw [← unhide hm] at hW1 hB1
  clear hm hW d0 d1 d2 d3 d4 hx
  have d3 : w1.cell? ⟨g, 3, none⟩ = some (.int .i64 r.used) := hW1.blk.cell 3
  have d4 : w1.cell? ⟨g, 4, none⟩ = some (.int .u32 r.code) := hW1.blk.cell 4
  replace hW1 := hide hW1; replace hB1 := hide hB1
  go_quiet (fail)
  have hW2 := (unhide hW1).drewN nq
  have hB2 := (unhide hB1).drewN nq
  generalize w1.drewN nq = w2 at *
  clear hW1 hB1 d3 d4
  have d0 : w2.cell? ⟨g, 0, none⟩ = some (.int .u32 r.span) := hW2.blk.cell 0
  have d2 : w2.cell? ⟨g, 2, none⟩ = some (.slice (some ⟨gt, 0, none⟩) t.length ct) := hW2.blk.cell 2
  replace hW2 := hide hW2; replace hB2 := hide hB2
  have i2 : IntKind.u32.wrap (r.code - z) = r.code - z := by rcases i1 with h | h; exact h; cases h
  clear i1
  go_wp2_with (first
    | (go_at_call 121; refine (unhide hLf _ d0).mono ?_; rintro e w1 ⟨rfl, rfl⟩)
    | fail)
  have hgt := own_ne2 (unhide hW2).text (unhide hW2).c (by decide)
  have hgl := (unhide hW2).blk.lt
  have hg1 : g ≠ gt := fun e => own_not (unhide hW2).text (by decide : (5 : TypeId) ≠ 157) (e ▸ (unhide hW2).blk)
  have hg2 : g ≠ gc := fun e => own_not (unhide hW2).c (by decide : (3 : TypeId) ≠ 157) (e ▸ (unhide hW2).blk)
  replace hgt := hide hgt; replace hg1 := hide hg1; replace hg2 := hide hg2
  clear i2 d0
  go_loopw [7, 8, 10] (fun c u s wr => ((c = .int .u32 C ∧ u = .int .i64 r.used ∧ s = .int .u32 S) ∨ (S < 16777216 ∧ r.used < t.length ∧ c = .int .u32 (C * 256 + o) ∧ u = .int .i64 ((r.used : Int) + 1) ∧ s = .int .u32 (S * 256))) ∧ w2 = wr) (fun _ _ s _ => (4294967296 - intOf s).toNat)
  case atStart => exact ⟨.inl ⟨by rw [unhide hcod], rfl, rfl⟩, rfl⟩
  case round =>
    obtain ⟨hcase, rfl⟩ := hrel
    rcases hcase with ⟨rfl, rfl, rfl⟩ | ⟨hlt, hul, rfl, rfl, rfl⟩
    · by_cases hlt : S < 16777216
      · by_cases hul : r.used < t.length
        · have q0 := (own_cell (unhide hW2).text r.used hul).trans (byc_at t r.used hul)
          have hb8 := (unhide ht) t[r.used] (List.getElem_mem hul)
          have hgd : t.getD r.used 0 = t[r.used] := getD_get hul
          rw [← hgd, ← unhide ho] at q0 hb8
          have j1 := or_oct (a := C) (b := o) (by omega) hb8
          have j2 : IntKind.u32.wrap (C * 256) = C * 256 := IntWalk.u32_in _ (by omega)
          have j3 : IntKind.u32.wrap o = o := IntWalk.u32_in _ (by omega)
          have j4 : IntKind.u32.wrap (S * 256) = S * 256 := IntWalk.u32_in _ (by omega)
          have j5 : IntKind.i64.wrap ((r.used : Int) + 1) = (r.used : Int) + 1 := IntWalk.i64_in _ (by omega)
          have j6 : ((r.used : Int) == (t.length : Int)) = false := by rw [beq_eq_false_iff_ne]; omega
          have j7 : (0 : Int) ≤ (r.used : Int) := by omega
          have j8 : (r.used : Int) < (t.length : Int) := by omega
          clear hb8 hgd
          go_wp2_with fail
          clear j1 j2 j3 j4 j5 j6
          go_roundw
          case rel => exact ⟨.inr ⟨hlt, hul, rfl, rfl, rfl⟩, by first | rfl | trivial⟩
          case measure => simp [intOf]; omega
        · have e : r.used = t.length := by omega
          have j6 : ((r.used : Int) == (t.length : Int)) = true := by rw [e]; simp
          have hX' := unhide hX
          rw [if_pos hlt, if_neg hul] at hX'
          replace hX' := hide hX'
          clear e
          go_wp2_with fail
          go_ret2
          rw [unhide hX']
          exact ⟨rfl, unhide hW2, unhide hB2⟩
      · have hX' := unhide hX
        rw [if_neg hlt] at hX'
        replace hX' := hide hX'
        have K3 := (((unhide hW2).blk.set 4 (.int .u32 C)).set 3 (.int .i64 (r.used : Int))).set 0 (.int .u32 S)
        simp only [List.setIfInBounds_toArray, List.set_cons_succ, List.set_cons_zero] at K3
        have o3 := own_far (own_far (own_far (unhide hW2).c (unhide hW2).blk (by decide) 4 (.int .u32 C)) ((unhide hW2).blk.set 4 _) (by decide) 3 (.int .i64 (r.used : Int))) (((unhide hW2).blk.set 4 _).set 3 _) (by decide) 0 (.int .u32 S)
        have t3 := own_far (own_far (own_far (unhide hW2).text (unhide hW2).blk (by decide) 4 (.int .u32 C)) ((unhide hW2).blk.set 4 _) (by decide) 3 (.int .i64 (r.used : Int))) (((unhide hW2).blk.set 4 _).set 3 _) (by decide) 0 (.int .u32 S)
        have B3 := (((unhide hB2).set (p := ⟨g, 4, none⟩) (by simp) (.int .u32 C)).set (p := ⟨g, 3, none⟩) (by simp) (.int .i64 (r.used : Int))).set (p := ⟨g, 0, none⟩) (by simp) (.int .u32 S)
        have f4 := (unhide hW2).blk.frozen 4
        have f3 := (unhide hW2).blk.frozen 3
        have f0 := (unhide hW2).blk.frozen 0
        have x4 := (unhide hW2).blk.cell 4
        have x3 := (unhide hW2).blk.cell 3
        have x0 := (unhide hW2).blk.cell 0
        simp at x4 x3 x0
        have e1 : (((w2.setCell ⟨g, 4, none⟩ (.int .u32 C)).setCell ⟨g, 3, none⟩ (.int .i64 (r.used : Int))).setCell ⟨g, 0, none⟩ (.int .u32 S)).cell? ⟨g, 1, none⟩ = some (.slice (some ⟨gc, 0, none⟩) r.c.length cc) := K3.cell 1
        replace K3 := hide K3; replace o3 := hide o3; replace t3 := hide t3; replace B3 := hide B3; replace e1 := hide e1
        clear hW2 hB2 d2
        go_wp2_with (first
          | (go_at_call 122; refine (unhide hLn _ (unhide e1) (unhide o3)).mono ?_; rintro e w5 ⟨rfl, r5, B5⟩; replace r5 := hide r5; replace B5 := hide B5)
          | fail)
        go_ret2
        rw [unhide hX']
        have K5 := (unhide K3).but (unhide B5) (by simp [unhide hg2])
        have t5 := own_but (unhide t3) (unhide B5) (fun q hq cs hcs => by
          simp only [List.mem_cons, List.not_mem_nil, or_false] at hq
          subst hq
          exact own_not (unhide o3) (by decide : (3 : TypeId) ≠ 5) hcs)
        exact ⟨rfl, ⟨by rw [stepA_len]; exact K5, by rw [stepA_len]; exact unhide r5, t5⟩, (unhide B3).trans ((unhide B5).mono (by simp))⟩
    · have hge : decide (S * 256 < 16777216) = false := by simp; omega
      have hX' := unhide hX
      rw [if_pos hlt, if_pos hul] at hX'
      replace hX' := hide hX'
      have K3 := (((unhide hW2).blk.set 4 (.int .u32 (C * 256 + o))).set 3 (.int .i64 ((r.used : Int) + 1))).set 0 (.int .u32 (S * 256))
      simp only [List.setIfInBounds_toArray, List.set_cons_succ, List.set_cons_zero] at K3
      have o3 := own_far (own_far (own_far (unhide hW2).c (unhide hW2).blk (by decide) 4 (.int .u32 (C * 256 + o))) ((unhide hW2).blk.set 4 _) (by decide) 3 (.int .i64 ((r.used : Int) + 1))) (((unhide hW2).blk.set 4 _).set 3 _) (by decide) 0 (.int .u32 (S * 256))
      have t3 := own_far (own_far (own_far (unhide hW2).text (unhide hW2).blk (by decide) 4 (.int .u32 (C * 256 + o))) ((unhide hW2).blk.set 4 _) (by decide) 3 (.int .i64 ((r.used : Int) + 1))) (((unhide hW2).blk.set 4 _).set 3 _) (by decide) 0 (.int .u32 (S * 256))
      have B3 := (((unhide hB2).set (p := ⟨g, 4, none⟩) (by simp) (.int .u32 (C * 256 + o))).set (p := ⟨g, 3, none⟩) (by simp) (.int .i64 ((r.used : Int) + 1))).set (p := ⟨g, 0, none⟩) (by simp) (.int .u32 (S * 256))
      have f4 := (unhide hW2).blk.frozen 4
      have f3 := (unhide hW2).blk.frozen 3
      have f0 := (unhide hW2).blk.frozen 0
      have x4 := (unhide hW2).blk.cell 4
      have x3 := (unhide hW2).blk.cell 3
      have x0 := (unhide hW2).blk.cell 0
      simp at x4 x3 x0
      have e1 : (((w2.setCell ⟨g, 4, none⟩ (.int .u32 (C * 256 + o))).setCell ⟨g, 3, none⟩ (.int .i64 ((r.used : Int) + 1))).setCell ⟨g, 0, none⟩ (.int .u32 (S * 256))).cell? ⟨g, 1, none⟩ = some (.slice (some ⟨gc, 0, none⟩) r.c.length cc) := K3.cell 1
      replace K3 := hide K3; replace o3 := hide o3; replace t3 := hide t3; replace B3 := hide B3; replace e1 := hide e1
      clear hW2 hB2 d2
      go_wp2_with (first
        | (go_at_call 122; refine (unhide hLn _ (unhide e1) (unhide o3)).mono ?_; rintro e w5 ⟨rfl, r5, B5⟩; replace r5 := hide r5; replace B5 := hide B5)
        | fail)
      go_ret2
      rw [unhide hX']
      have K5 := (unhide K3).but (unhide B5) (by simp [unhide hg2])
      have t5 := own_but (unhide t3) (unhide B5) (fun q hq cs hcs => by
        simp only [List.mem_cons, List.not_mem_nil, or_false] at hq
        subst hq
        exact own_not (unhide o3) (by decide : (3 : TypeId) ≠ 5) hcs)
      exact ⟨rfl, ⟨by rw [stepA_len]; exact K5, by rw [stepA_len]; exact unhide r5, t5⟩, (unhide B3).trans ((unhide B5).mono (by simp))⟩
set_option maxHeartbeats 4000000 in
theorem Next_false (base g gc cc gt ct k : Nat) (r : Rdr) (t : List Int) (w : World) (hW : Rdg base g gc cc gt ct w r t) (hk : k < r.c.length) (h : OkR r) (ht : okB t) (hl : t.length ≤ 1000000) (hu : r.used ≤ t.length) (hb : bitR r k = false) :
    Calls Tryz.prog 128 #[.pointer (some ⟨g, 0, none⟩), .int .i64 k] w fun e w' => e = .returned (.tuple #[.bool (nextR t r k).1, .int .i64 (nextR t r k).2.2]) ∧ Rdg base g gc cc gt ct w' (nextR t r k).2.1 t ∧ But [g, gc] w w' := by
  have hn := nextR_in (t := t) (r := r) (i := (k : Int)) ⟨by omega, by omega⟩
  obtain ⟨X, hX⟩ : ∃ X, X = nextR t r k := ⟨_, rfl⟩
  rw [← hX]
  obtain ⟨o, ho⟩ : ∃ o, o = t.getD r.used 0 := ⟨_, rfl⟩
  rw [hn, hb, ← ho] at hX
  replace ho := hide ho
  clear hn
  obtain ⟨a1, a2, a3, a4⟩ := half_ok h (i := (k : Int)) (by omega) (by omega)
  have hpo := part_ok h.c (i := (k : Int)) (by omega) (by omega) h.span
  have hx := (own_cell hW.c k hk).trans (ivc_at r.c k hk)
  have hpc := (okC_iff.1 h.c).2 _ (List.getElem_mem hk)
  have hpp : partP r.span r.c (k : Int) = r.span / 2048 * r.c[k] := by unfold partP; rw [Int.toNat_natCast, getD_get hk]
  have hP := fun W (a : W.cell? ⟨g, 0, none⟩ = some (.int .u32 r.span)) (b : W.cell? ⟨g, 1, none⟩ = some (.slice (some ⟨gc, 0, none⟩) r.c.length cc)) (c : W.cell? ⟨gc, k, none⟩ = some (.int .i64 r.c[k])) => part_any g gc r.c.length cc k r.span r.c[k] W a b hk c h.span hpc
  rw [← hpp] at hP
  have hsp := h.span
  have hco := h.code
  have hH := fun W h => has_any g r.c.length (some ⟨gc, 0, none⟩) cc k W h
  have e : (decide (0 ≤ (k : Int)) && decide ((k : Int) < r.c.length)) = true := by simp; omega
  rw [e] at hH
  have hLn := fun W a b => learn_any g gc cc k base r.c false W a hk b h.c
  have hcod : codeR r k = r.code := by unfold codeR; rw [hb]; simp only [Bool.false_eq_true, if_false]
  have hspn : spanR r k = partP r.span r.c (k : Int) := by unfold spanR; rw [hb]; simp only [Bool.false_eq_true, if_false]
  have hdec : decide (partP r.span r.c (k : Int) ≤ r.code) = false := hb
  have hLf : ∀ W, W.cell? ⟨g, 0, none⟩ = some (.int .u32 r.span) → Calls Tryz.prog 121 #[.pointer (some ⟨g, 0, none⟩), .int .u32 (partP r.span r.c (k : Int)), .bool false] W fun e w' => e = .returned (.int .u32 (spanR r k)) ∧ W = w' := fun W a => by rw [hspn]; exact left_any g r.span (partP r.span r.c (k : Int)) false W a (by omega) (by omega)
  have d0 : w.cell? ⟨g, 0, none⟩ = some (.int .u32 r.span) := hW.blk.cell 0
  have d1 : w.cell? ⟨g, 1, none⟩ = some (.slice (some ⟨gc, 0, none⟩) r.c.length cc) := hW.blk.cell 1
  have d2 : w.cell? ⟨g, 2, none⟩ = some (.slice (some ⟨gt, 0, none⟩) t.length ct) := hW.blk.cell 2
  have d3 : w.cell? ⟨g, 3, none⟩ = some (.int .i64 r.used) := hW.blk.cell 3
  have d4 : w.cell? ⟨g, 4, none⟩ = some (.int .u32 r.code) := hW.blk.cell 4
  generalize hS : spanR r k = S at *
  generalize hC : codeR r k = C at *
  have i1 : IntKind.u32.wrap (r.code - partP r.span r.c (k : Int)) = r.code - partP r.span r.c (k : Int) ∨ false = false := by first | exact .inr rfl | exact .inl (IntWalk.u32_in _ (by have := of_decide_eq_true hdec; omega))
  generalize partP r.span r.c (k : Int) = z at *
  generalize r.c[k] = p at *
  clear hpp hpc hb e hS hC hspn
  replace hP := hide hP; replace hH := hide hH; replace hLf := hide hLf; replace hLn := hide hLn; replace hW := hide hW; replace hcod := hide hcod; replace h := hide h; replace ht := hide ht; replace hpo := hide hpo; replace hX := hide hX
  go_enter Tryz.func128, Tryz.ntmps128
  go_wp2_with (first
    | (go_at_call 91; refine (unhide hH _ d1).mono ?_; rintro e w1 ⟨rfl, rfl⟩)
    | (go_at_call 119; refine (unhide hP _ d0 d1 hx).mono ?_; rintro e w1 ⟨rfl, m, hm⟩; replace hm := hide hm)
    | fail)
  have hW1 := (unhide hW).drewN m
  have hB1 := (But.refl [g, gc] w).drewN m
  rw [← unhide hm] at hW1 hB1
  clear hm hW d0 d1 d2 d3 d4 hx
  have d3 : w1.cell? ⟨g, 3, none⟩ = some (.int .i64 r.used) := hW1.blk.cell 3
  have d4 : w1.cell? ⟨g, 4, none⟩ = some (.int .u32 r.code) := hW1.blk.cell 4
  replace hW1 := hide hW1; replace hB1 := hide hB1
  go_quiet (fail)
  have hW2 := (unhide hW1).drewN nq
  have hB2 := (unhide hB1).drewN nq
  generalize w1.drewN nq = w2 at *
  clear hW1 hB1 d3 d4
  have d0 : w2.cell? ⟨g, 0, none⟩ = some (.int .u32 r.span) := hW2.blk.cell 0
  have d2 : w2.cell? ⟨g, 2, none⟩ = some (.slice (some ⟨gt, 0, none⟩) t.length ct) := hW2.blk.cell 2
  replace hW2 := hide hW2; replace hB2 := hide hB2
  clear i1
  have i2 : True := trivial
  go_wp2_with (first
    | (go_at_call 121; refine (unhide hLf _ d0).mono ?_; rintro e w1 ⟨rfl, rfl⟩)
    | fail)
  have hgt := own_ne2 (unhide hW2).text (unhide hW2).c (by decide)
  have hgl := (unhide hW2).blk.lt
  have hg1 : g ≠ gt := fun e => own_not (unhide hW2).text (by decide : (5 : TypeId) ≠ 157) (e ▸ (unhide hW2).blk)
  have hg2 : g ≠ gc := fun e => own_not (unhide hW2).c (by decide : (3 : TypeId) ≠ 157) (e ▸ (unhide hW2).blk)
  replace hgt := hide hgt; replace hg1 := hide hg1; replace hg2 := hide hg2
  clear i2 d0
  go_loopw [7, 8, 10] (fun c u s wr => ((c = .int .u32 C ∧ u = .int .i64 r.used ∧ s = .int .u32 S) ∨ (S < 16777216 ∧ r.used < t.length ∧ c = .int .u32 (C * 256 + o) ∧ u = .int .i64 ((r.used : Int) + 1) ∧ s = .int .u32 (S * 256))) ∧ w2 = wr) (fun _ _ s _ => (4294967296 - intOf s).toNat)
  case atStart => exact ⟨.inl ⟨by rw [unhide hcod], rfl, rfl⟩, rfl⟩
  case round =>
    obtain ⟨hcase, rfl⟩ := hrel
    rcases hcase with ⟨rfl, rfl, rfl⟩ | ⟨hlt, hul, rfl, rfl, rfl⟩
    · by_cases hlt : S < 16777216
      · by_cases hul : r.used < t.length
        · have q0 := (own_cell (unhide hW2).text r.used hul).trans (byc_at t r.used hul)
          have hb8 := (unhide ht) t[r.used] (List.getElem_mem hul)
          have hgd : t.getD r.used 0 = t[r.used] := getD_get hul
          rw [← hgd, ← unhide ho] at q0 hb8
          have j1 := or_oct (a := C) (b := o) (by omega) hb8
          have j2 : IntKind.u32.wrap (C * 256) = C * 256 := IntWalk.u32_in _ (by omega)
          have j3 : IntKind.u32.wrap o = o := IntWalk.u32_in _ (by omega)
          have j4 : IntKind.u32.wrap (S * 256) = S * 256 := IntWalk.u32_in _ (by omega)
          have j5 : IntKind.i64.wrap ((r.used : Int) + 1) = (r.used : Int) + 1 := IntWalk.i64_in _ (by omega)
          have j6 : ((r.used : Int) == (t.length : Int)) = false := by rw [beq_eq_false_iff_ne]; omega
          have j7 : (0 : Int) ≤ (r.used : Int) := by omega
          have j8 : (r.used : Int) < (t.length : Int) := by omega
          clear hb8 hgd
          go_wp2_with fail
          clear j1 j2 j3 j4 j5 j6
          go_roundw
          case rel => exact ⟨.inr ⟨hlt, hul, rfl, rfl, rfl⟩, by first | rfl | trivial⟩
          case measure => simp [intOf]; omega
        · have e : r.used = t.length := by omega
          have j6 : ((r.used : Int) == (t.length : Int)) = true := by rw [e]; simp
          have hX' := unhide hX
          rw [if_pos hlt, if_neg hul] at hX'
          replace hX' := hide hX'
          clear e
          go_wp2_with fail
          go_ret2
          rw [unhide hX']
          exact ⟨rfl, unhide hW2, unhide hB2⟩
      · have hX' := unhide hX
        rw [if_neg hlt] at hX'
        replace hX' := hide hX'
        have K3 := (((unhide hW2).blk.set 4 (.int .u32 C)).set 3 (.int .i64 (r.used : Int))).set 0 (.int .u32 S)
        simp only [List.setIfInBounds_toArray, List.set_cons_succ, List.set_cons_zero] at K3
        have o3 := own_far (own_far (own_far (unhide hW2).c (unhide hW2).blk (by decide) 4 (.int .u32 C)) ((unhide hW2).blk.set 4 _) (by decide) 3 (.int .i64 (r.used : Int))) (((unhide hW2).blk.set 4 _).set 3 _) (by decide) 0 (.int .u32 S)
        have t3 := own_far (own_far (own_far (unhide hW2).text (unhide hW2).blk (by decide) 4 (.int .u32 C)) ((unhide hW2).blk.set 4 _) (by decide) 3 (.int .i64 (r.used : Int))) (((unhide hW2).blk.set 4 _).set 3 _) (by decide) 0 (.int .u32 S)
        have B3 := (((unhide hB2).set (p := ⟨g, 4, none⟩) (by simp) (.int .u32 C)).set (p := ⟨g, 3, none⟩) (by simp) (.int .i64 (r.used : Int))).set (p := ⟨g, 0, none⟩) (by simp) (.int .u32 S)
        have f4 := (unhide hW2).blk.frozen 4
        have f3 := (unhide hW2).blk.frozen 3
        have f0 := (unhide hW2).blk.frozen 0
        have x4 := (unhide hW2).blk.cell 4
        have x3 := (unhide hW2).blk.cell 3
        have x0 := (unhide hW2).blk.cell 0
        simp at x4 x3 x0
        have e1 : (((w2.setCell ⟨g, 4, none⟩ (.int .u32 C)).setCell ⟨g, 3, none⟩ (.int .i64 (r.used : Int))).setCell ⟨g, 0, none⟩ (.int .u32 S)).cell? ⟨g, 1, none⟩ = some (.slice (some ⟨gc, 0, none⟩) r.c.length cc) := K3.cell 1
        replace K3 := hide K3; replace o3 := hide o3; replace t3 := hide t3; replace B3 := hide B3; replace e1 := hide e1
        clear hW2 hB2 d2
        go_wp2_with (first
          | (go_at_call 122; refine (unhide hLn _ (unhide e1) (unhide o3)).mono ?_; rintro e w5 ⟨rfl, r5, B5⟩; replace r5 := hide r5; replace B5 := hide B5)
          | fail)
        go_ret2
        rw [unhide hX']
        have K5 := (unhide K3).but (unhide B5) (by simp [unhide hg2])
        have t5 := own_but (unhide t3) (unhide B5) (fun q hq cs hcs => by
          simp only [List.mem_cons, List.not_mem_nil, or_false] at hq
          subst hq
          exact own_not (unhide o3) (by decide : (3 : TypeId) ≠ 5) hcs)
        exact ⟨rfl, ⟨by rw [stepA_len]; exact K5, by rw [stepA_len]; exact unhide r5, t5⟩, (unhide B3).trans ((unhide B5).mono (by simp))⟩
    · have hge : decide (S * 256 < 16777216) = false := by simp; omega
      have hX' := unhide hX
      rw [if_pos hlt, if_pos hul] at hX'
      replace hX' := hide hX'
      have K3 := (((unhide hW2).blk.set 4 (.int .u32 (C * 256 + o))).set 3 (.int .i64 ((r.used : Int) + 1))).set 0 (.int .u32 (S * 256))
      simp only [List.setIfInBounds_toArray, List.set_cons_succ, List.set_cons_zero] at K3
      have o3 := own_far (own_far (own_far (unhide hW2).c (unhide hW2).blk (by decide) 4 (.int .u32 (C * 256 + o))) ((unhide hW2).blk.set 4 _) (by decide) 3 (.int .i64 ((r.used : Int) + 1))) (((unhide hW2).blk.set 4 _).set 3 _) (by decide) 0 (.int .u32 (S * 256))
      have t3 := own_far (own_far (own_far (unhide hW2).text (unhide hW2).blk (by decide) 4 (.int .u32 (C * 256 + o))) ((unhide hW2).blk.set 4 _) (by decide) 3 (.int .i64 ((r.used : Int) + 1))) (((unhide hW2).blk.set 4 _).set 3 _) (by decide) 0 (.int .u32 (S * 256))
      have B3 := (((unhide hB2).set (p := ⟨g, 4, none⟩) (by simp) (.int .u32 (C * 256 + o))).set (p := ⟨g, 3, none⟩) (by simp) (.int .i64 ((r.used : Int) + 1))).set (p := ⟨g, 0, none⟩) (by simp) (.int .u32 (S * 256))
      have f4 := (unhide hW2).blk.frozen 4
      have f3 := (unhide hW2).blk.frozen 3
      have f0 := (unhide hW2).blk.frozen 0
      have x4 := (unhide hW2).blk.cell 4
      have x3 := (unhide hW2).blk.cell 3
      have x0 := (unhide hW2).blk.cell 0
      simp at x4 x3 x0
      have e1 : (((w2.setCell ⟨g, 4, none⟩ (.int .u32 (C * 256 + o))).setCell ⟨g, 3, none⟩ (.int .i64 ((r.used : Int) + 1))).setCell ⟨g, 0, none⟩ (.int .u32 (S * 256))).cell? ⟨g, 1, none⟩ = some (.slice (some ⟨gc, 0, none⟩) r.c.length cc) := K3.cell 1
      replace K3 := hide K3; replace o3 := hide o3; replace t3 := hide t3; replace B3 := hide B3; replace e1 := hide e1
      clear hW2 hB2 d2
      go_wp2_with (first
        | (go_at_call 122; refine (unhide hLn _ (unhide e1) (unhide o3)).mono ?_; rintro e w5 ⟨rfl, r5, B5⟩; replace r5 := hide r5; replace B5 := hide B5)
        | fail)
      go_ret2
      rw [unhide hX']
      have K5 := (unhide K3).but (unhide B5) (by simp [unhide hg2])
      have t5 := own_but (unhide t3) (unhide B5) (fun q hq cs hcs => by
        simp only [List.mem_cons, List.not_mem_nil, or_false] at hq
        subst hq
        exact own_not (unhide o3) (by decide : (3 : TypeId) ≠ 5) hcs)
      exact ⟨rfl, ⟨by rw [stepA_len]; exact K5, by rw [stepA_len]; exact unhide r5, t5⟩, (unhide B3).trans ((unhide B5).mono (by simp))⟩
end Go.Proofs.YthkccpemgmpadaaGreatDoor.P
namespace Go.Proofs.YthkccpemgmpadaaGreatDoor.P
set_option maxRecDepth 100000
open Go.RowKit
theorem Next_any (base g gc cc gt ct : Nat) (i : Int) (r : Rdr) (t : List Int) (w : World) (hW : Rdg base g gc cc gt ct w r t) (h : OkR r) (ht : okB t) (hl : t.length ≤ 1000000) (hu : r.used ≤ t.length) :
    Calls Tryz.prog 128 #[.pointer (some ⟨g, 0, none⟩), .int .i64 i] w fun e w' => e = .returned (.tuple #[.bool (nextR t r i).1, .int .i64 (nextR t r i).2.2]) ∧ Rdg base g gc cc gt ct w' (nextR t r i).2.1 t ∧ But [g, gc] w w' := by
  by_cases hi : 0 ≤ i ∧ i < r.c.length
  · obtain ⟨k, rfl⟩ : ∃ k : Nat, i = (k : Int) := ⟨i.toNat, by omega⟩
    cases hb : bitR r k
    · exact Next_false base g gc cc gt ct k r t w hW (by omega) h ht hl hu hb
    · exact Next_true base g gc cc gt ct k r t w hW (by omega) h ht hl hu hb
  · have e : nextR t r i = (false, r, 4) := by unfold nextR; rw [if_pos hi]
    rw [e]
    refine (Next_none base g gc cc gt ct i r t w hW hi).mono ?_
    rintro e w' ⟨rfl, rfl⟩
    exact ⟨rfl, hW, But.refl _ _⟩
theorem nextR_used {t : List Int} {r : Rdr} {i : Int} (hu : r.used ≤ t.length) : (nextR t r i).2.1.used ≤ t.length := by
  unfold nextR
  split
  · exact hu
  · split
    · split
      · simp only []; omega
      · exact hu
    · exact hu
abbrev Os (lo hi : Nat) (w : World) (v : Value) (l : List Int) : Prop := Rd 1 byc lo hi w v l
theorem byc_one : ∀ x, ∀ u ∈ byc x, u.oneCell' = true := by intro x u h; simp [byc] at h; subst h; rfl
theorem Os.open {lo hi : Nat} {w : World} {v : Value} {l : List Int} (h : Os lo hi w v l) : ∃ A c, v = .slice A l.length c ∧ l.length ≤ c ∧ c ≤ 9223372036854775807 ∧
    ∀ i (hi' : i < l.length), ∃ b off, A = some ⟨b, off, none⟩ ∧ lo ≤ b ∧ b < hi ∧ w.cell? ⟨b, off + i, none⟩ = some (.int .u8 l[i]) := by
  obtain ⟨A, c, e, h1, h2, h3⟩ := h.open1
  exact ⟨A, c, e, h1, h2, fun i hi => by obtain ⟨b, off, e, g1, g2, g3⟩ := h3 i hi; exact ⟨b, off, e, g1, g2, g3 _ rfl⟩⟩
set_option maxHeartbeats 400000 in
theorem Clone_any (lo : Nat) (v : Value) (l : List Int) (w : World) (h : Os lo w.heap.size w v l) (hL : l.length ≤ 1000000) (h0 : 0 < l.length) :
    Calls Tryz.prog 37 #[v] w fun e w' => ∃ g c, e = .returned (.slice (some ⟨g, 0, none⟩) l.length c) ∧ w'.ownsRow w.heap.size 5 1 (.slice (some ⟨g, 0, none⟩) l.length c) l.length (l.flatMap byc) ∧ Below w.heap.size w w' := by
  obtain ⟨i0, hi0, hz0, hz1, hz2⟩ := info5'
  have h' := h
  obtain ⟨A, c, rfl, h1, h2, h3⟩ := h'
  have hs := Rd.src byc_len h
  obtain ⟨b, off, hA, hrest⟩ := h3 h0
  clear hrest
  clear h h3
  have q23 : ∀ (w : World) (a : Option Addr) (n c : Nat), (binOp .eql 29 (.slice a n c) (.slice none 0 0)).run Tryz.prog w = .ok (.bool a.isNone) w := fun w a n c => Lib.run_eql_slice_nil w _ _ a n c 0 0 Tryz.underlying29
  obtain ⟨xs, hxs⟩ : ∃ xs, xs = l.flatMap byc := ⟨_, rfl⟩
  have hxl : xs.length = l.length * 1 := by rw [hxs, flat_len byc_len]
  have hx1 : ∀ u ∈ xs, u.oneCell' = true := by rw [hxs]; exact flat_one byc_one l
  rw [← hxs] at hs ⊢
  clear hxs
  generalize l.length = n at *
  have HS := hs.2
  have hb1 : 0 + n ≤ maxLen := by simp only [maxLen]; omega
  have hb2 : (0 + n) * 1 ≤ 140737488355328 := by omega
  subst hA
  have hz : w.heap.size ≤ (w.alloc (.cells #[] 5)).heap.size := by simp
  have hSA := HS.below ((Below.refl w.heap.size w).alloc (Nat.le_refl _) (.cells #[] 5))
  replace hxl := hide hxl; replace hx1 := hide hx1; replace hSA := hide hSA; replace hz := hide hz
  clear hs HS
  go_enter Tryz.func37, Tryz.ntmps37
  go_wp2_with (first
    | (at_builtin
       refine wpList_app _ rfl (.tmp 5) (.tmp 6) 29 rfl w.heap.size 5 i0 _ 1 1 Tryz.underlying29 hi0 hz0 hz1 hz2 rfl (Nat.succ_pos _) _ 0 [] rfl (World.ownsRow_lit w #[] 0 (Nat.le_refl _) (Nat.zero_le _) rfl) (some ⟨b, off, none⟩) n c xs rfl (unhide hxl) (unhide hSA) (unhide hx1) hb1 hb2 (unhide hz) ?_
       intro v' w1 hown hg))
  go_ret
  rw [Nat.zero_add, List.nil_append] at hown
  obtain ⟨A', c', rfl⟩ := ownsRow_form hown
  obtain ⟨g', _, e', _, _⟩ := own_pos hown h0
  subst e'
  refine ⟨g', c', rfl, hown, ?_⟩
  refine bl_grown ((Below.refl _ _).alloc (Nat.le_refl _) _) hg ?_
  intro k hk
  simp [Act.eval, Value.ownBlock] at hk
  omega
end Go.Proofs.YthkccpemgmpadaaGreatDoor.P
