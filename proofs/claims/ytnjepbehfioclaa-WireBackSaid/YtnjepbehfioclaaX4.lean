import Derived.Test.YtnjepbehfioclaaX3
namespace Go.Proofs.Ytnjepbehfioclaa
open Go.RowKit Go.Shelf
attribute [local go_sem] Oper.semAt_some bz_size bz_toList

theorem box_far {W : World} {g : Nat} {t : TypeId} {v : Value} (h : Boxed W g t v) {g' : Nat} (hne : g ≠ g') (u : Value) : Boxed (W.setCell ⟨g', 0, none⟩ u) g t v := h.other hne u

theorem tl_le (l : List UInt8) : (tl l).length ≤ l.length := by
  cases h : hasS l with
  | true => exact Nat.le_of_lt (tl_lt h)
  | false => rw [(cut_not l h).2]; simp
theorem compare_any (a b : List UInt8) (w : World) : Calls Try.prog 64 #[.string (bz a), .string (bz b)] w fun e w' => e = .returned (.int .i64 (Lib.compareBytes a b)) ∧ w = w' := (Try.strings_Compare (bz a) (bz b) w).mono fun _ _ ⟨h1, h2⟩ => ⟨h1, h2.symm⟩

/-- Between two rounds: what is left of b, in the box g. -/
def CmI (w0 : World) (g : Nat) (b : List UInt8) (pre : List (List UInt8)) (W : World) : Prop :=
  (∃ r, ((∀ post, cmpP (pre ++ post) b = cmpP post r) ∧ r.length ≤ b.length) ∧ Boxed W g 9 (.string (bz r))) ∧ (Boxed W w0.heap.size 3 (.int .i64 0) ∧ Boxed W (w0.heap.size + 1) 30 (.int .i64 0)) ∧ Below w0.heap.size w0 W
def CmX (w0 : World) (b : List UInt8) (c : Code) (pre : List (List UInt8)) (W : World) : Prop :=
  (∃ z, (c = .ret ∧ ∀ post, cmpP (pre ++ post) b = z) ∧ Boxed W w0.heap.size 3 (.int .i64 z)) ∧ Boxed W (w0.heap.size + 1) 30 (.int .i64 0) ∧ Below w0.heap.size w0 W
theorem own_ex {β γ : Type} (B g : Nat) (t : TypeId) (p : β → γ → Prop) (f : γ → Value) : OwnFrom B (fun (s : β) W => ∃ r, p s r ∧ Boxed W g t (f r)) := fun s X Y row ⟨r, hp, hb⟩ hg hrow =>
  ⟨r, hp, hb.kept hg (fun e' => by obtain ⟨_, o, ho, hc⟩ := hrow g e'.symm; rw [show X.heap[g]? = _ from hb] at ho; cases ho; cases hc)⟩
theorem cmI_own (w0 : World) (g : Nat) (b : List UInt8) (B : Nat) (hB : w0.heap.size ≤ B) : OwnFrom B (CmI w0 g b) :=
  OwnFrom.and (own_ex B g 9 (fun pre r => (∀ post, cmpP (pre ++ post) b = cmpP post r) ∧ r.length ≤ b.length) (fun r => .string (bz r)))
    (OwnFrom.and (OwnFrom.and (Own.from (boxed_own _ _ (fun _ => .int .i64 0)) _) (Own.from (boxed_own _ _ (fun _ => .int .i64 0)) _)) (ownFrom_below (Nat.le_refl _) hB))
theorem cmX_own (w0 : World) (b : List UInt8) (c : Code) (B : Nat) (hB : w0.heap.size ≤ B) : OwnFrom B (CmX w0 b c) :=
  OwnFrom.and (own_ex B w0.heap.size 3 (fun pre z => c = .ret ∧ ∀ post, cmpP (pre ++ post) b = z) (fun z => .int .i64 z))
    (OwnFrom.and (Own.from (boxed_own _ _ (fun _ => .int .i64 0)) _) (ownFrom_below (Nat.le_refl _) hB))

theorem bl_drewN {B : Nat} {w W : World} (h : Below B w W) (n : Nat) : Below B w (W.drewN n) := ⟨h.os, h.tape, h.output, h.size, h.block⟩
theorem ko_drewN (W : World) (n : Nat) : KeepsOthers W (W.drewN n) := ⟨Nat.le_refl _, fun _ _ h _ => h⟩

set_option maxRecDepth 100000 in
set_option maxHeartbeats 1000000 in
theorem cmp_loop (a b : List UInt8) (ha : nameB a = true) (hb : nameB b = true) (hla : a.length ≤ 1000) (hlb : b.length ≤ 1000) (w : World) :
    Calls Try.prog 58 #[.string (bz a), .string (bz b)] w fun e W' => e = .returned (.tuple #[.int .i64 (cmpP (parts a) b), .int .i64 0]) ∧ Below w.heap.size w W' := by
  have HA := fun W => isName_any a hla W
  have HB := fun W => isName_any b hlb W
  rw [ha] at HA
  rw [hb] at HB
  clear ha hb
  replace HA := hide HA
  replace HB := hide HB
  have tok1 : True := trivial
  refine (callsIn_wide (n := 3)).1 ?_
  refine callsIn_of_wp_marks Try.func58 rfl trivial ?_ rfl
  simp only [Try.ntmps58, List.size_toArray, List.length_cons, List.length_nil, Nat.reduceAdd, Nat.reduceSub, Array.replicate_succ, Array.replicate_zero, List.push_toArray, List.append_toArray, List.nil_append, List.cons_append]
  gi_wp2_with (first
    | (refine ⟨trivial, ?_⟩; gi_at_call 61; have _t := tok1; refine (callsIn_wide.2 (unhide HA _)).mono ?_; rintro e w1 ⟨rfl, B1⟩; clear tok1 _t)
    | (refine ⟨trivial, ?_⟩; gi_at_call 61; refine (callsIn_wide.2 (unhide HB _)).mono ?_; rintro e w2 ⟨rfl, B2⟩)
    | (refine ⟨trivial, ?_⟩; gi_at_call 62; refine (callsIn_wide.2 (parts_maker a _)).mono ?_; rintro e w' ⟨rfl, rfl⟩))
  have B0 : Below w.heap.size w w2 := by
    have h1 := B1.trans (B2.mono B1.size)
    exact (bl_alloc (bl_alloc (Below.refl _ _) _) _).trans (h1.mono (by simp only [World.size_alloc]; omega))
  have hs2 : w.heap.size + 1 + 1 ≤ w2.heap.size := by have h1 := B1.size; have h2 := B2.size; simp only [World.size_alloc] at h1; omega
  have q0 : Boxed w2 w.heap.size 3 (.int .i64 0) := by
    have : Blk ((w.alloc (.cells #[.int .i64 0] 3)).alloc (.cells #[.int .i64 0] 30)) w.heap.size 3 #[.int .i64 0] := (Blk.new rfl).alloc _
    exact (this.below B1 this.lt).below B2 (Nat.lt_of_lt_of_le this.lt B1.size)
  have q1 : Boxed w2 (w.heap.size + 1) 30 (.int .i64 0) := by
    have : Blk ((w.alloc (.cells #[.int .i64 0] 3)).alloc (.cells #[.int .i64 0] 30)) (w.heap.size + 1) 30 #[.int .i64 0] := Blk.new (by simp only [World.size_alloc])
    exact (this.below B1 this.lt).below B2 (Nat.lt_of_lt_of_le this.lt B1.size)
  clear B1 B2
  have b0 : Boxed ((w2.alloc (.cells #[.string (bz b)] 9)).alloc (.cells #[.string (bz a)] 9)) w.heap.size 3 (.int .i64 0) := (q0.alloc _).alloc _
  have b1 : Boxed ((w2.alloc (.cells #[.string (bz b)] 9)).alloc (.cells #[.string (bz a)] 9)) (w.heap.size + 1) 30 (.int .i64 0) := (q1.alloc _).alloc _
  have b2 : Boxed ((w2.alloc (.cells #[.string (bz b)] 9)).alloc (.cells #[.string (bz a)] 9)) w2.heap.size 9 (.string (bz b)) := (Boxed.new w2 9 _).alloc _
  have b3 : Boxed ((w2.alloc (.cells #[.string (bz b)] 9)).alloc (.cells #[.string (bz a)] 9)) (w2.heap.size + 1) 9 (.string (bz a)) := by
    have := Boxed.new (w2.alloc (.cells #[.string (bz b)] 9)) 9 (.string (bz a))
    simpa only [World.size_alloc] using this
  have hB0 : Below w.heap.size w ((w2.alloc (.cells #[.string (bz b)] 9)).alloc (.cells #[.string (bz a)] 9)) := (B0.alloc (by omega) _).alloc (by simp only [World.size_alloc]; omega) _
  have hsz : ((w2.alloc (.cells #[.string (bz b)] 9)).alloc (.cells #[.string (bz a)] 9)).heap.size = w2.heap.size + 1 + 1 := by simp only [World.size_alloc]
  obtain ⟨W0, hW0⟩ : ∃ W0, (w2.alloc (.cells #[.string (bz b)] 9)).alloc (.cells #[.string (bz a)] 9) = W0 := ⟨_, rfl⟩
  rw [hW0] at b0 b1 b2 b3 hB0 hsz ⊢
  obtain ⟨g, hg⟩ : ∃ g, w2.heap.size = g := ⟨_, rfl⟩
  rw [hg] at b2 b3 hsz hs2 ⊢
  clear hW0 q0 q1 B0 hg
  refine wpIn_rangeFunc_ownG rfl (by omega) (gf := 66) (lb := #[.pointer (some ⟨g + 1, 0, none⟩)]) rfl trivial (enters_of Try.func66 (by kernel_rfl) rfl)
    (parts_stops a hla (3 - 1) (by omega) (g + 1) W0 (by omega) b3.cell) (fun _ _ => trivial) kb_true (Below.refl _ _) (fun _ => rfl)
    (CmI w g b) (CmX w b) (cmI_own w g b _ (by omega)) (fun c => cmX_own w b c _ (by omega))
    ⟨⟨b, ⟨fun post => rfl, Nat.le_refl _⟩, b2⟩, ⟨b0, b1⟩, hB0⟩
    (fun x => { tmps := #[.string (bz a), .string (bz b), undef, undef, .pointer (some ⟨w.heap.size, 0, none⟩), .pointer (some ⟨w.heap.size + 1, 0, none⟩), .pointer (some ⟨g, 0, none⟩), .string (bz x), undef, undef, undef, undef, .string (bz a), .bool true, .bool false, .bool false, .string (bz b), .bool true, .bool false, .bool false, .string (bz b), .string (bz a), .func (.func 66) #[] #[.pointer (some ⟨g + 1, 0, none⟩)], .string (bz x), undef, undef, undef, undef, undef, undef, undef, undef, undef, undef, undef, undef, undef, undef, undef], defers := [] }) ?assign ?body ?done ?stop
  case assign =>
    intro l x W K hK
    gi_wp2
    exact hK
  case body =>
    rintro l pre x W ⟨⟨r, ⟨hr, hrl⟩, hb⟩, ⟨hb0, hb1⟩, hB⟩ _
    have hc := hb.cell
    have hf := hb.frozen
    have hc0 := hb0.cell
    have hf0 := hb0.frozen
    have hc1 := hb1.cell
    have hf1 := hb1.frozen
    have HC := fun W' => cut_any r (by omega) W'
    replace HC := hide HC
    have HM := fun W' => compare_any x (hd r) W'
    have htl := tl_le r
    obtain ⟨z, hz⟩ : ∃ z, Lib.compareBytes x (hd r) = z := ⟨_, rfl⟩
    rw [hz] at HM
    replace HM := hide HM
    replace hr := hide hr
    replace hz := hide hz
    by_cases hz0 : z = 0
    · subst hz0
      gi_wp2_with (first
        | (refine ⟨trivial, ?_⟩; gi_at_call 63; refine (CallsIn.inRound l (callsIn_wide.2 (unhide HC _))).mono ?_; rintro e w' ⟨rfl, n, rfl⟩)
        | (refine ⟨trivial, ?_⟩; gi_at_call 64; refine (CallsIn.inRound l (callsIn_wide.2 (unhide HM _))).mono ?_; rintro e w' ⟨rfl, rfl⟩))
      have hb' : Boxed (W.drewN n) g 9 (.string (bz r)) := hb
      have hb0' : Boxed (W.drewN n) w.heap.size 3 (.int .i64 0) := hb0
      have hb1' : Boxed (W.drewN n) (w.heap.size + 1) 30 (.int .i64 0) := hb1
      exact ⟨((ko_drewN W n).trans (KeepsOthers.setCell _ _ _)).from _, trivial, ⟨tl r, ⟨fun post => by
        rw [List.append_assoc, unhide hr]
        exact cmpP_on (unhide hz), by omega⟩, hb'.set _⟩, ⟨box_far hb0' (by omega) _, box_far hb1' (by omega) _⟩, (bl_drewN hB n).setCell (p := ⟨g, 0, none⟩) (by show w.heap.size ≤ g; omega) _⟩
    · have hz1 : (z == 0) = false := by rw [beq_eq_false_iff_ne]; exact hz0
      have hz2 : (z != 0) = true := by rw [bne_iff_ne]; exact hz0
      gi_wp2_with (first
        | (refine ⟨trivial, ?_⟩; gi_at_call 63; refine (CallsIn.inRound l (callsIn_wide.2 (unhide HC _))).mono ?_; rintro e w' ⟨rfl, n, rfl⟩)
        | (refine ⟨trivial, ?_⟩; gi_at_call 64; refine (CallsIn.inRound l (callsIn_wide.2 (unhide HM _))).mono ?_; rintro e w' ⟨rfl, rfl⟩))
      have hb0' : Boxed (W.drewN n) w.heap.size 3 (.int .i64 0) := hb0
      have hb1' : Boxed (W.drewN n) (w.heap.size + 1) 30 (.int .i64 0) := hb1
      exact ⟨(((ko_drewN W n).trans (KeepsOthers.setCell _ _ _)).trans (KeepsOthers.setCell _ _ _)).from _, ⟨z, ⟨rfl, fun post => by
        rw [List.append_assoc, unhide hr]
        exact (cmpP_off (by rw [unhide hz]; exact hz0)).trans (unhide hz)⟩, box_far (hb0'.set _) (by omega) _⟩, (box_far hb1' (by omega) _).set _, ((bl_drewN hB n).setCell (p := ⟨w.heap.size, 0, none⟩) (Nat.le_refl _) _).setCell (p := ⟨w.heap.size + 1, 0, none⟩) (by show w.heap.size ≤ w.heap.size + 1; omega) _⟩
  case done =>
    rintro D ys W hD rfl ⟨⟨r, ⟨hr, hrl⟩, hb⟩, ⟨hb0, hb1⟩, hB⟩ hK
    have hc := hb.cell
    have hf := hb.frozen
    have hc0 := hb0.cell
    have hf0 := hb0.frozen
    have hc1 := hb1.cell
    have hf1 := hb1.frozen
    have HM := fun W' => compare_any [] r W'
    replace HM := hide HM
    replace hr := hide hr
    gi_wp2_with ((refine ⟨trivial, ?_⟩; gi_at_call 64; refine (callsIn_wide.2 (unhide HM _)).mono ?_; rintro e w' ⟨rfl, rfl⟩))
    have hzz : cmpP (parts a) b = Lib.compareBytes [] r := by
      have := unhide hr []
      rwa [List.append_nil] at this
    have hK' := ((KeepsOthers.setCell W ⟨w.heap.size, 0, none⟩ (.int .i64 (Lib.compareBytes [] r))).trans (KeepsOthers.setCell _ ⟨w.heap.size + 1, 0, none⟩ (.int .i64 0))).same D _ hK rfl
    refine ⟨by simp, .inl ⟨_, _, rfl, run_takeDeferred hK', ?_⟩⟩
    have hc5 := cell_kept (box_far (hb0.set (.int .i64 (Lib.compareBytes [] r))) (g' := w.heap.size + 1) (by omega) (.int .i64 0)).cell (grownBy_putObj' _ D (.deferred none)) (fun r e => by cases e; exact ⟨_, hK', rfl⟩)
    have hc6 := cell_kept ((box_far hb1 (g' := w.heap.size) (by omega) (.int .i64 (Lib.compareBytes [] r))).set (.int .i64 0)).cell (grownBy_putObj' _ D (.deferred none)) (fun r e => by cases e; exact ⟨_, hK', rfl⟩)
    refine ⟨.tuple #[.int .i64 (Lib.compareBytes [] r), .int .i64 0], ?_, by rw [hzz], ((hB.setCell (p := ⟨w.heap.size, 0, none⟩) (Nat.le_refl _) _).setCell (p := ⟨w.heap.size + 1, 0, none⟩) (by show w.heap.size ≤ w.heap.size + 1; omega) _).trans (belowK_b (w := w) (Nat.le_refl _) _ D _ _ (by omega) hK' rfl rfl)⟩
    simp [results, Try.f58, go_sem, hc5, hc6]
  case stop =>
    rintro D c pre W hD hpre ⟨⟨z, ⟨rfl, hz⟩, hb0⟩, hb1, hB⟩ hK
    have hc0 := hb0.cell
    have hc1 := hb1.cell
    have hzz : cmpP (parts a) b = z := by
      obtain ⟨post, e⟩ := hpre
      rw [← e]; exact hz post
    clear hz hpre
    replace hzz := hide hzz
    gi_wp2
    refine ⟨by simp, .inl ⟨_, _, rfl, run_takeDeferred hK, ?_⟩⟩
    have hc5 := cell_kept hc0 (grownBy_putObj' _ D (.deferred none)) (fun r e => by cases e; exact ⟨_, hK, rfl⟩)
    have hc6 := cell_kept hc1 (grownBy_putObj' _ D (.deferred none)) (fun r e => by cases e; exact ⟨_, hK, rfl⟩)
    refine ⟨.tuple #[.int .i64 z, .int .i64 0], ?_, by rw [unhide hzz], hB.trans (belowK_b (w := w) (Nat.le_refl _) _ D _ _ (by omega) hK rfl rfl)⟩
    simp [results, Try.f58, go_sem, hc5, hc6]

set_option maxHeartbeats 400000 in
theorem cmp_no (a b : List UInt8) (hn : nameB a = false ∨ nameB b = false) (hla : a.length ≤ 1000) (hlb : b.length ≤ 1000) (w : World) :
    Calls Try.prog 58 #[.string (bz a), .string (bz b)] w fun e W' => e = .returned (.tuple #[.int .i64 0, .int .i64 1]) ∧ Below w.heap.size w W' := by
  have HA := fun W => isName_any a hla W
  have HB := fun W => isName_any b hlb W
  cases ha : nameB a with
  | false =>
    rw [ha] at HA
    clear ha hn HB
    replace HA := hide HA
    go_enter Try.func58, Try.ntmps58
    go_wp2_with (go_at_call 61; refine (unhide HA _).mono ?_; rintro e w1 ⟨rfl, B1⟩; (have q0 : Blk w1 w.heap.size 3 #[.int .i64 0] := Blk.below ((Blk.new rfl).alloc _) B1 (by simp only [World.size_alloc]; omega)); (have q1 : Blk w1 (w.heap.size + 1) 30 #[.int .i64 0] := Blk.below (Blk.new (by simp only [World.size_alloc])) B1 (by simp only [World.size_alloc]; omega)); have c0 := q0.cell 0; have f0 := q0.frozen 0; have c1 := q1.cell 0; have f1 := q1.frozen 0)
    have BW := (bl_alloc (bl_alloc (Below.refl w.heap.size w) (.cells #[.int .i64 0] 3)) (.cells #[.int .i64 0] 30)).trans (B1.mono (by simp only [World.size_alloc]; omega))
    exact bodyPost_ret (v := .tuple #[.int .i64 0, .int .i64 1]) (by simp [results, Try.results58, go_sem, c0, c1]) rfl ⟨rfl, (BW.setCell (p := ⟨w.heap.size, 0, none⟩) (Nat.le_refl _) _).setCell (p := ⟨w.heap.size + 1, 0, none⟩) (by show w.heap.size ≤ w.heap.size + 1; omega) _⟩
  | true =>
    have hb : nameB b = false := by rcases hn with h | h; (· rw [ha] at h; cases h); exact h
    rw [ha] at HA
    rw [hb] at HB
    clear ha hb hn
    replace HA := hide HA
    replace HB := hide HB
    have tok1 : True := trivial
    go_enter Try.func58, Try.ntmps58
    go_wp2_with (first
      | (go_at_call 61; have _t := tok1; refine (unhide HA _).mono ?_; rintro e w0 ⟨rfl, B0⟩; clear tok1 _t)
      | (go_at_call 61; refine (unhide HB _).mono ?_; rintro e w1 ⟨rfl, B1'⟩; (have B1 := B0.trans (B1'.mono B0.size)); clear B1'; (have q0 : Blk w1 w.heap.size 3 #[.int .i64 0] := Blk.below ((Blk.new rfl).alloc _) B1 (by simp only [World.size_alloc]; omega)); (have q1 : Blk w1 (w.heap.size + 1) 30 #[.int .i64 0] := Blk.below (Blk.new (by simp only [World.size_alloc])) B1 (by simp only [World.size_alloc]; omega)); have c0 := q0.cell 0; have f0 := q0.frozen 0; have c1 := q1.cell 0; have f1 := q1.frozen 0))
    have BW := (bl_alloc (bl_alloc (Below.refl w.heap.size w) (.cells #[.int .i64 0] 3)) (.cells #[.int .i64 0] 30)).trans (B1.mono (by simp only [World.size_alloc]; omega))
    exact bodyPost_ret (v := .tuple #[.int .i64 0, .int .i64 1]) (by simp [results, Try.results58, go_sem, c0, c1]) rfl ⟨rfl, (BW.setCell (p := ⟨w.heap.size, 0, none⟩) (Nat.le_refl _) _).setCell (p := ⟨w.heap.size + 1, 0, none⟩) (by show w.heap.size ≤ w.heap.size + 1; omega) _⟩

theorem cmp_any (a b : List UInt8) (hla : a.length ≤ 1000) (hlb : b.length ≤ 1000) (w : World) :
    Calls Try.prog 58 #[.string (bz a), .string (bz b)] w fun e W' => e = .returned (.tuple #[.int .i64 (cmpF a b).1, .int .i64 (cmpF a b).2]) ∧ Below w.heap.size w W' := by
  by_cases h : nameB a = false ∨ nameB b = false
  · have e : cmpF a b = (0, 1) := by unfold cmpF; rw [if_pos h]
    rw [e]
    exact cmp_no a b h hla hlb w
  · have ha : nameB a = true := by cases h' : nameB a with
      | true => rfl
      | false => exact absurd (.inl h') h
    have hb : nameB b = true := by cases h' : nameB b with
      | true => rfl
      | false => exact absurd (.inr h') h
    have e : cmpF a b = (cmpP (parts a) b, 0) := by unfold cmpF; rw [if_neg h, cmpP_names ha hb]
    rw [e]
    exact cmp_loop a b ha hb hla hlb w

theorem bz_add (a b : List UInt8) : bz a ++ bz b = bz (a ++ b) := ByteArray.mk_append_mk a b
theorem bz_cat (d t : List UInt8) : bz d ++ ⟨#[47]⟩ ++ bz t = bz (d ++ 47 :: t) := by
  have : (⟨#[47]⟩ : ByteArray) = bz [47] := rfl
  rw [this, bz_add, bz_add]; simp
theorem bz_sl (d : List UInt8) : bz d ++ ⟨#[47]⟩ = bz (d ++ [47]) := bz_add d [47]


set_option maxHeartbeats 400000 in
theorem check_any (t : List UInt8) (hl : t.length ≤ 1000) (w : World) :
    Calls Try.prog 60 #[.string (bz t)] w fun e W' => e = .returned (.int .i64 (if nameB t then 0 else 1)) ∧ Below w.heap.size w W' := by
  have HN := fun W => isName_any t hl W
  cases e1 : nameB t with
  | true =>
    rw [e1] at HN
    clear e1
    replace HN := hide HN
    go_enter Try.func60, Try.ntmps60
    go_wp2_with (go_at_call 61; refine (unhide HN _).mono ?_; rintro e w1 ⟨rfl, B1⟩)
    go_ret
    exact ⟨rfl, B1⟩
  | false =>
    rw [e1] at HN
    clear e1
    replace HN := hide HN
    go_enter Try.func60, Try.ntmps60
    go_wp2_with (go_at_call 61; refine (unhide HN _).mono ?_; rintro e w1 ⟨rfl, B1⟩)
    go_ret
    exact ⟨rfl, B1⟩

end Go.Proofs.Ytnjepbehfioclaa
