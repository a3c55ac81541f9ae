import Derived.Test.YthekgpmkoemmaaaC1
import Derived.Maps.AppendAt
namespace Go.Proofs.Ythekgpmkoemmaaa
open Go.RowKit Go.Shelf
attribute [local go_sem] Oper.semAt_some bz_size bz_toList

theorem okP_bad {pre : List (List UInt8)} {x : List UInt8} (h : x.isEmpty = true ∨ (x == [46]) = true ∨ (x == [46, 46]) = true) : (pre ++ [x]).all okP = false := by
  rw [List.all_eq_false]
  refine ⟨x, by simp, ?_⟩
  rcases h with h | h | h <;> simp [okP, isE, isD, isU, h]
theorem okP_good {pre : List (List UInt8)} {x : List UInt8} (hp : pre.all okP = true) (h1 : x.isEmpty = false) (h2 : (x == [46]) = false) (h3 : (x == [46, 46]) = false) : (pre ++ [x]).all okP = true := by
  rw [List.all_append, hp]
  simp [okP, isE, isD, isU, h1, h2, h3]
theorem kb_true {w : World} : ∀ (W : World) (l : Nat) (o o' : Obj), w.heap.size ≤ l → W.heap[l]? = some o → o.isCells = false → o.isWalk = false → (fun _ _ => True : World → World → Prop) W (W.putObj l o') := fun _ _ _ _ _ _ _ _ => trivial

/-- Between two rounds; and where a round has left. -/
def NmI (w0 : World) (pre : List (List UInt8)) (W : World) : Prop := (pre.all okP = true ∧ Boxed W w0.heap.size 4 (.bool false)) ∧ Below w0.heap.size w0 W
def NmX (w0 : World) (c : Code) (pre : List (List UInt8)) (W : World) : Prop := ((c = .ret ∧ pre.all okP = false) ∧ Boxed W w0.heap.size 4 (.bool false)) ∧ Below w0.heap.size w0 W
theorem nmI_own (w0 : World) (B : Nat) (hB : w0.heap.size ≤ B) : OwnFrom B (NmI w0) :=
  OwnFrom.and (OwnFrom.and (ownFrom_pure _ _) (Own.from (boxed_own _ _ (fun _ => .bool false)) _)) (ownFrom_below (Nat.le_refl _) hB)
theorem nmX_own (w0 : World) (c : Code) (B : Nat) (hB : w0.heap.size ≤ B) : OwnFrom B (NmX w0 c) :=
  OwnFrom.and (OwnFrom.and (ownFrom_pure _ _) (Own.from (boxed_own _ _ (fun _ => .bool false)) _)) (ownFrom_below (Nat.le_refl _) hB)
theorem nm_leave {w0 W : World} {pre : List (List UInt8)} {x : List UInt8} (B : Nat) (hb : Boxed W w0.heap.size 4 (.bool false)) (hB : Below w0.heap.size w0 W) (h : (pre ++ [x]).all okP = false) :
    KeepsFrom B W (W.setCell ⟨w0.heap.size, 0, none⟩ (.bool false)) ∧ NmX w0 .ret (pre ++ [x]) (W.setCell ⟨w0.heap.size, 0, none⟩ (.bool false)) :=
  ⟨(KeepsOthers.setCell _ _ _).from _, ⟨⟨rfl, h⟩, hb.set _⟩, hB.setCell (p := ⟨w0.heap.size, 0, none⟩) (Nat.le_refl _) _⟩
theorem all_prefix {pre ps : List (List UInt8)} (h : pre <+: ps) (hp : pre.all okP = false) : ps.all okP = false := by
  rw [List.all_eq_false] at *
  obtain ⟨x, hx, h'⟩ := hp
  exact ⟨x, h.subset hx, h'⟩
set_option maxRecDepth 100000 in
set_option maxHeartbeats 1000000 in
theorem isName_loop (t : List UInt8) (h96 : t.length ≤ 96) (ho : ofName t = true) (w : World) :
    Calls Try.prog 31 #[.string (bz t)] w fun e W' => e = .returned (.bool ((parts t).all okP)) ∧ Below w.heap.size w W' := by
  have HO := fun W => ofName_any t (by omega) W
  rw [ho] at HO
  clear ho
  have HT : t.length ≤ 1000 := by omega
  replace HO := hide HO
  have hd : decide ((96 : Int) < (t.length : Int)) = false := decide_eq_false (by omega)
  refine (callsIn_wide (n := 3)).1 ?_
  refine callsIn_of_wp_marks Try.func31 rfl trivial ?_ rfl
  simp only [Try.ntmps31, List.size_toArray, List.length_cons, List.length_nil, Nat.reduceAdd, Nat.reduceSub, Array.replicate_succ, Array.replicate_zero, List.push_toArray, List.append_toArray, List.nil_append, List.cons_append]
  gi_wp2_with (first
    | (refine ⟨trivial, ?_⟩; gi_at_call 22; refine (callsIn_wide.2 (unhide HO _)).mono ?_; rintro e w' ⟨rfl, rfl⟩)
    | (refine ⟨trivial, ?_⟩; gi_at_call 23; refine (callsIn_wide.2 (parts_maker t _)).mono ?_; rintro e w' ⟨rfl, rfl⟩))
  have c0 := Boxed.new w 4 (.bool false)
  have c1 := Boxed.new (w.alloc (.cells #[.bool false] 4)) 9 (.string (bz t))
  simp only [World.size_alloc] at c1
  have hB0 : Below w.heap.size w ((w.alloc (.cells #[.bool false] 4)).alloc (.cells #[.string (bz t)] 9)) := ((Below.refl _ w).alloc (Nat.le_refl _) _).alloc (by simp) _
  refine wpIn_rangeFunc_ownG rfl (by omega) (gf := 37) (lb := #[.pointer (some ⟨w.heap.size + 1, 0, none⟩)]) rfl trivial (enters_of Try.func37 (by kernel_rfl) rfl)
    (parts_stops t HT (3 - 1) (by omega) (w.heap.size + 1) _ (by simp) c1.cell) (fun _ _ => trivial) kb_true (Below.refl _ _) (fun _ => rfl)
    (NmI w) (NmX w) (nmI_own w _ (by simp; omega)) (fun c => nmX_own w c _ (by simp; omega))
    ⟨⟨rfl, c0.alloc _⟩, hB0⟩
    (fun x => { tmps := #[.string (bz t), undef, .pointer (some ⟨w.heap.size, 0, none⟩), .string (bz x), .string (bz t), .int .i64 t.length, .bool false, .bool false, .string (bz t), .bool true, .bool false, .bool false, .string (bz t), .func (.func 37) #[] #[.pointer (some ⟨w.heap.size + 1, 0, none⟩)], .string (bz x), undef, undef, undef, undef, undef], defers := [] }) ?assign ?body ?done ?stop
  case assign =>
    intro l x W K hK
    gi_wp2
    exact hK
  case body =>
    rintro l pre x W ⟨⟨hp, hb⟩, hB⟩ _
    have hc := hb.cell
    have hf := hb.frozen
    cases e1 : x.isEmpty with
    | true =>
      gi_wp2
      exact nm_leave _ hb hB (okP_bad (.inl e1))
    | false =>
      cases e2 : x == [46] with
      | true =>
        gi_wp2
        exact nm_leave _ hb hB (okP_bad (.inr (.inl e2)))
      | false =>
        cases e3 : x == [46, 46] with
        | true =>
          gi_wp2
          exact nm_leave _ hb hB (okP_bad (.inr (.inr e3)))
        | false =>
          gi_wp2
          exact ⟨KeepsFrom.refl _ _, trivial, ⟨okP_good hp e1 e2 e3, hb⟩, hB⟩
  case done =>
    rintro D ys W hD rfl ⟨⟨hp, hb⟩, hB⟩ hK
    have hc := hb.cell
    have hf := hb.frozen
    replace hp := hide hp
    gi_wp2
    have hK' := (KeepsOthers.setCell W ⟨w.heap.size, 0, none⟩ (.bool true)).same D _ hK rfl
    refine ⟨by simp, .inl ⟨_, _, rfl, run_takeDeferred hK', ?_⟩⟩
    have hc5 := cell_kept (hb.set (.bool true)).cell (grownBy_putObj' _ D (.deferred none)) (fun r e => by cases e; exact ⟨_, hK', rfl⟩)
    refine ⟨.bool true, ?_, by rw [unhide hp], (hB.setCell (p := ⟨w.heap.size, 0, none⟩) (Nat.le_refl _) _).trans (belowK_b (w := w) (Nat.le_refl _) _ D _ _ (by simp at hD; omega) hK' rfl rfl)⟩
    simp [results, Try.f31, go_sem, hc5]
  case stop =>
    rintro D c pre W hD hpre ⟨⟨⟨rfl, hp⟩, hb⟩, hB⟩ hK
    have hc := hb.cell
    replace hp := hide (all_prefix hpre hp)
    clear hpre
    gi_wp2
    refine ⟨by simp, .inl ⟨_, _, rfl, run_takeDeferred hK, ?_⟩⟩
    have hc5 := cell_kept hc (grownBy_putObj' _ D (.deferred none)) (fun r e => by cases e; exact ⟨_, hK, rfl⟩)
    refine ⟨.bool false, ?_, by rw [unhide hp], hB.trans (belowK_b (w := w) (Nat.le_refl _) W D _ _ (by simp at hD; omega) hK rfl rfl)⟩
    simp [results, Try.f31, go_sem, hc5]

set_option maxHeartbeats 400000 in
theorem isName_any (t : List UInt8) (hl : t.length ≤ 1000) (w : World) :
    Calls Try.prog 31 #[.string (bz t)] w fun e W' => e = .returned (.bool (nameB t)) ∧ Below w.heap.size w W' := by
  by_cases h96 : t.length ≤ 96
  · cases ho : ofName t with
    | true =>
      refine (isName_loop t h96 ho w).mono fun e w' ⟨he, hw⟩ => ⟨?_, hw⟩
      rw [he]; simp [nameB, h96, ho]
    | false =>
      have hn : nameB t = false := by simp [nameB, ho]
      have HO := fun W => ofName_any t hl W
      rw [ho] at HO
      rw [hn]
      clear ho hn
      replace HO := hide HO
      have hd : decide ((96 : Int) < (t.length : Int)) = false := decide_eq_false (by omega)
      go_enter Try.func31, Try.ntmps31
      go_wp2_with (go_at_call 22; refine (unhide HO _).mono ?_; rintro e w' ⟨rfl, rfl⟩)
      exact bodyPost_ret (v := .bool false) (by simp [results, Try.results31, go_sem]) rfl ⟨rfl, (Below.refl _ _).alloc (Nat.le_refl _) _⟩
  · have hn : nameB t = false := by simp [nameB]; intro h; omega
    rw [hn]
    clear hn
    have hd : decide ((96 : Int) < (t.length : Int)) = true := decide_eq_true (by omega)
    go_enter Try.func31, Try.ntmps31
    go_wp2_with fail
    exact bodyPost_ret (v := .bool false) (by simp [results, Try.results31, go_sem]) rfl ⟨rfl, (Below.refl _ _).alloc (Nat.le_refl _) _⟩
end Go.Proofs.Ythekgpmkoemmaaa
