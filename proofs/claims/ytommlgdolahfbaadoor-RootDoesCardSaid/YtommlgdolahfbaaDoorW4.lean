import Derived.Test.YtommlgdolahfbaaDoorProg
import Derived.Test.YtommlgdolahfbaaDoorBase3
import Derived.Test.YtommlgdolahfbaaDoorW3
namespace Go.Proofs.YtommlgdolahfbaaDoor
set_option maxRecDepth 100000
open Go.RowKit

theorem info41' : (Tryd.prog.info? 56).map (fun i => (i.zero, i.size, i.bytes)) = some (some (.agg #[.int .i64 0, .slice none 0 0]), 2, 32) := by kernel_rfl

theorem cells_one {ws : List Value} (h : ∀ v ∈ ws, v.oneCell' = true) : ∀ v ∈ ws, v.oneCell' = true := h

/-- slices.Insert of one page at the end of a row that has no room. -/
theorem insert_end (gw n gv : Nat) (ws : List Value) (x y : Value) (w : World) (hw : Blk w gw 56 ws.toArray) (hl : ws.length = n * 2) (hv : Blk w gv 56 #[x, y]) (hx : x.oneCell' = true) (hy : y.oneCell' = true) (hn : n ≤ 100000) :
    Calls Tryd.prog 50 #[.slice (some ⟨gw, 0, none⟩) n n, .int .i64 n, .slice (some ⟨gv, 0, none⟩) 1 1] w fun e w' => ∃ v', e = .returned v' ∧ w'.ownsRow gw 56 2 v' (n + 1) (ws ++ [x, y]) ∧ w.grownBy w' (some gw) := by
  obtain ⟨i0, hi0, hz0, hz1, hz2⟩ := info_parts info41'
  have hown : w.ownsRow gw 56 2 (.slice (some ⟨gw, 0, none⟩) n n) n ws := ⟨hl, .inr ⟨gw, n, ws.toArray, rfl, Nat.le_refl _, hw, Nat.le_refl _, by simp [maxLen]; omega, by simpa using hl, by simp [← hl]⟩⟩
  have hs : SrcOk w (some ⟨gv, 0, none⟩) 1 [x, y] := SrcOk.blk (cur := [x, y]) (by simpa using hv) (fun j u h => by simpa using h)
  have h1 : ∀ u ∈ [x, y], u.oneCell' = true := by simp [hx, hy]
  have hb1 : n + 1 ≤ maxLen := by simp [maxLen]; omega
  have hb2 : (n + 1) * 32 ≤ 140737488355328 := by omega
  have hz := hw.lt
  replace hown := hide hown; replace hs := hide hs; replace h1 := hide h1; replace hz := hide hz
  clear hw hv hl
  have e1 : ((n : Int) == (n : Int)) = true := by simp
  go_enter Tryd.func50, Tryd.ntmps50
  go_wp2_with (first
    | (at_builtin
       refine wpList_app _ rfl (.tmp 23) (.tmp 24) 29 rfl gw 56 i0 _ 2 32 Tryd.underlying29 hi0 hz0 hz1 hz2 rfl (Nat.succ_pos _) _ n ws rfl (unhide hown) _ 1 1 [x, y] rfl rfl (unhide hs) (unhide h1) hb1 hb2 (Nat.le_of_lt (unhide hz)) ?_
       intro v' w1 ho hg)
    | fail)
  go_ret
  exact ⟨v', rfl, unhide (hide ho), by simpa [Act.eval, Value.ownBlock] using hg⟩

/-- What lies behind the first 'm' cells does not count. -/
theorem mid_list (ws Z : List Value) (x y : Value) (i n : Nat) (hl : ws.length = n * 2) (hi : i < n) (hZ : (n + 1 - i) * 2 ≤ Z.length) :
    (splice (splice (ws.take (i * 2) ++ Z) (i * 2) [x, y]) (i * 2 + 2) (ws.drop (i * 2))).take ((n + 1) * 2) = ws.take (i * 2) ++ ([x, y] ++ ws.drop (i * 2)) := by
  have h1 : (ws.take (i * 2)).length = i * 2 := by rw [List.length_take]; omega
  have h2 : (ws.drop (i * 2)).length = n * 2 - i * 2 := by rw [List.length_drop]; omega
  have hA : (splice (ws.take (i * 2) ++ Z) (i * 2) [x, y]).length = i * 2 + Z.length := by
    rw [length_splice _ _ _ (by simp [h1]; omega)]; simp [h1]
  apply List.ext_getElem?
  intro j
  rw [List.getElem?_take]
  by_cases hj : j < (n + 1) * 2
  · rw [if_pos hj, splice_get _ _ _ (by rw [hA, h2]; omega), splice_get _ _ _ (by simp [h1]; omega), h2]
    simp only [List.length_cons, List.length_nil]
    rcases Nat.lt_or_ge j (i * 2) with c1 | c1
    · rw [if_pos (by omega), if_pos c1, List.getElem?_append_left (by rw [h1]; exact c1), List.getElem?_append_left (by rw [h1]; exact c1)]
    · rcases Nat.lt_or_ge j (i * 2 + 2) with c2 | c2
      · rw [if_pos c2, if_neg (by omega), if_pos (by omega), List.getElem?_append_right (by rw [h1]; exact c1), h1, List.getElem?_append_left (by simp; omega)]
      · rw [if_neg (by omega), if_pos (by omega), List.getElem?_append_right (by rw [h1]; exact c1), h1, List.getElem?_append_right (by simp; omega)]
        first | (congr 1; done) | (congr 1; simp only [List.length_cons, List.length_nil]; omega)
  · rw [if_neg hj, List.getElem?_eq_none (by simp only [List.length_append, h1, h2, List.length_cons, List.length_nil]; omega)]

set_option maxHeartbeats 1000000 in
/-- slices.Insert of one page into a row that has no room, ahead of its end. -/
theorem insert_mid (gw n gv i : Nat) (ws : List Value) (x y : Value) (w : World) (hw : Blk w gw 56 ws.toArray) (hl : ws.length = n * 2) (hv : Blk w gv 56 #[x, y]) (hx : x.oneCell' = true) (hy : y.oneCell' = true)
    (h1 : ∀ v ∈ ws, v.oneCell' = true) (hn : n ≤ 100000) (hi : i < n) :
    Calls Tryd.prog 50 #[.slice (some ⟨gw, 0, none⟩) n n, .int .i64 i, .slice (some ⟨gv, 0, none⟩) 1 1] w fun e w' => ∃ v', e = .returned v' ∧ w'.ownsRow w.heap.size 56 2 v' (n + 1) (ws.take (i * 2) ++ ([x, y] ++ ws.drop (i * 2))) ∧ Below w.heap.size w w' := by
  obtain ⟨i0, hi0, hz0, hz1, hz2⟩ := info_parts info41'
  have hold : (Builtin.firstCells i0.size i (.slice (some ⟨gw, 0, none⟩) i n)).run Tryd.prog w.drew = .ok (ws.take (i * 2)).toArray w.drew := by
    have := run_loadCells_list (P := Tryd.prog) w.drew ⟨gw, 0, none⟩ (ws.take (i * 2)) (fun j v hj => by
      obtain ⟨ad, e, hc⟩ := (SrcOk.blk (m := 1) (off := 0) (cs := ws.take (i * 2)) hw (fun j u hu => by rw [Nat.zero_add]; rw [List.getElem?_take] at hu; split at hu <;> simp_all)) (by omega)
      injection e with e
      subst e
      exact hc j v hj)
    simp only [Builtin.firstCells, hz1]
    rw [show (ws.take (i * 2)).length = i * 2 by rw [List.length_take]; omega] at this
    exact this
  have hrun := Lib.run_append_grow_zeros (P := Tryd.prog) w 29 3 29 56 i0 _ .i64 .i64 Tryd.underlying29 Tryd.underlying3 hi0 hz0 (some ⟨gw, 0, none⟩) i n (ws.take (i * 2)) hold (n + 1 - i) (by omega) (by omega) (by omega) (by omega) (by rw [hz2]; omega) (by rw [hz2]; exact growslice_fits (by omega) (by omega))
  rw [show i + (n + 1 - i) = n + 1 by omega, show ((n + 1 - i : Nat) : Int) = (n : Int) + 1 - (i : Int) by omega] at hrun
  have hge := grownCap_ge w (n + 1) n 56
  have hle := grownCap_le_maxLen w (n + 1) n 56 (by simp [maxLen]; omega)
  generalize grownCap w (n + 1) n 56 = cp at hrun hge hle
  obtain ⟨Z, hZ⟩ : ∃ Z, Z = (Builtin.zeroCells (Value.agg #[.int .i64 0, .slice none 0 0]).cells (n + 1 - i) ++ Builtin.zeroCells (Value.agg #[.int .i64 0, .slice none 0 0]).cells (cp - (n + 1))).toList := ⟨_, rfl⟩
  have hZl : Z.length = (cp - i) * 2 := by rw [hZ]; simp [Builtin.zeroCells, Value.cells]; omega
  rw [Array.append_assoc, show (ws.take (i * 2)).toArray ++ (Builtin.zeroCells (Value.agg #[.int .i64 0, .slice none 0 0]).cells (n + 1 - i) ++ Builtin.zeroCells (Value.agg #[.int .i64 0, .slice none 0 0]).cells (cp - (n + 1))) = (ws.take (i * 2) ++ Z).toArray by rw [hZ]; simp] at hrun
  simp only [maxLen] at hle
  have hg := hw.lt
  have hwl := hide hl; have hw' := hide hw; have hv' := hide hv; have h1' := hide h1; have hZ' := hide hZl
  have hrun' := hide hrun
  clear hrun hold hw hv h1 hl hZ hZl
  have j1 : ((i : Int) == (n : Int)) = false := by rw [beq_eq_false_iff_ne]; omega
  have j2 : (i : Int) ≤ (n : Int) := by omega
  have j3 : (n : Int) + 1 ≤ (cp : Int) := by omega
  have j4 : cp ≠ i := by omega
  have j5 : cp ≠ i + 1 := by omega
  have j6 : n ≠ i := by omega
  obtain ⟨L, hL⟩ : ∃ L, L = ws.take (i * 2) ++ Z := ⟨_, rfl⟩
  have hLl : L.length = cp * 2 := by rw [hL, List.length_append, List.length_take, unhide hwl, unhide hZ']; omega
  rw [← hL] at hrun'
  have B1 : Blk (w.alloc (.cells L.toArray 56)) w.heap.size 56 L.toArray := Blk.new rfl
  have P1 : SrcOk (w.alloc (.cells L.toArray 56)) (some ⟨gv, 0, none⟩) 2 [x, y] := SrcOk.blk (cur := [x, y]) (by simpa using (unhide hv').alloc _) (fun j u h => by simpa using h)
  have M1 : 1 = Nat.min 1 (n + 1 - i) := by show 1 = min 1 (n + 1 - i); omega
  have M2 : n - i = Nat.min (n - i) (n - i) := (Nat.min_self _).symm
  have F1 : i * 2 + [x, y].length ≤ L.length := by simp [hLl]; omega
  have F2 : (i + 1) * 2 + (ws.drop (i * 2)).length ≤ (splice L (i * 2) [x, y]).length := by rw [length_splice _ _ _ F1, hLl, List.length_drop, unhide hwl]; omega
  have N2 : (ws.drop (i * 2)).length = (n - i) * 2 := by rw [List.length_drop, unhide hwl]; omega
  have Q1 : ∀ u ∈ [x, y], u.oneCell' = true := by simp [hx, hy]
  have Q2 : ∀ u ∈ ws.drop (i * 2), u.oneCell' = true := fun u hu => unhide h1' u (List.mem_of_mem_drop hu)
  replace B1 := hide B1; replace P1 := hide P1; replace M1 := hide M1; replace M2 := hide M2; replace F1 := hide F1; replace F2 := hide F2; replace N2 := hide N2; replace Q1 := hide Q1; replace Q2 := hide Q2
  have HLl := hide hLl; have HL := hide hL
  clear hL hLl hx hy
  go_enter Tryd.func50, Tryd.ntmps50
  go_wp2_with (first
    | (at_builtin
       refine Lib.wpList_append_run _ rfl (.tmp 34) (.tmp 39) 29 3 rfl _ _ rfl rfl _ _ (unhide hrun') ?_)
    | (refine wpList_copyN rfl (.tmp 43) (.tmp 44) 29 29 rfl 56 2 Tryd.underlying29 (by kernel_rfl) _ _ _ _ _ _ rfl rfl w.heap.size (i * 2) _ 56 (unhide B1) [x, y] 1 (unhide M1) rfl (fun _ => ⟨rfl, unhide P1⟩) (unhide F1) (unhide Q1) ?_
       intro w2 B2 O2)
    | fail)
  have G2 : Blk w2 gw 56 ws.toArray := (((unhide hw').alloc (.cells L.toArray 56)).drew).only O2 (Nat.ne_of_lt hg)
  have P2 : SrcOk w2 (some ⟨gw, i * 2, none⟩) (ws.drop (i * 2)).length (ws.drop (i * 2)) := SrcOk.blk G2 (fun j u h => by rwa [List.getElem?_drop] at h)
  replace G2 := hide G2; replace P2 := hide P2
  go_simp
  have k1 : IntKind.i64.wrap ((i : Int) + 1) = (i : Int) + 1 := IntWalk.i64_in _ (by omega)
  have k2 : ((i : Int) + 1).toNat = i + 1 := by omega
  have k3 : (0 : Int) ≤ (i : Int) + 1 := by omega
  have k4 : (i : Int) + 1 ≤ (n : Int) + 1 := by omega
  go_region_held3 (fun _ => True) (trivial) (first | (refine step_copyN rfl (.tmp 50) (.tmp 53) 29 29 rfl 56 2 Tryd.underlying29 (by kernel_rfl) _ _ _ _ _ _ rfl rfl w.heap.size ((i + 1) * 2) (splice L (i * 2) [x, y]) 56 (Blk.drew (unhide B2)) (ws.drop (i * 2)) (n - i) (unhide M2) (unhide N2) (fun _ => ⟨rfl, (show SrcOk w2.drew _ _ _ from unhide P2)⟩) (unhide F2) (unhide Q2) ?_; intro w3 B3 O3))
  clear k1 k2 k3 k4
  all_goals
    go_wp2_with fail
    go_ret
    refine ⟨_, rfl, ⟨?_, .inr ⟨w.heap.size, cp, _, rfl, Nat.le_refl _, unhide B3, by omega, by simp [maxLen]; omega, ?_, ?_⟩⟩, ?_⟩
    · simp only [List.length_append, List.length_take, List.length_drop, unhide hwl, List.length_cons]
      omega
    · simp only [List.size_toArray]
      rw [length_splice _ _ _ (unhide F2), length_splice _ _ _ (unhide F1), unhide HLl]
    · show (splice (splice L (i * 2) [x, y]) ((i + 1) * 2) (ws.drop (i * 2))).take ((n + 1) * 2) = _
      rw [unhide HL, show (i + 1) * 2 = i * 2 + 2 by omega]
      exact mid_list ws Z x y i n (unhide hwl) hi (by rw [unhide hZ']; omega)
    · have b2 : Below w.heap.size w w2 := ((Below.refl _ _).alloc (Nat.le_refl _) (.cells L.toArray 56)).trans ((⟨O2.os, O2.tape, O2.output, Nat.le_of_eq O2.size.symm, fun k hk => O2.block k (by omega)⟩ : Below w.heap.size (w.alloc (.cells L.toArray 56)) w2))
      exact b2.trans (⟨O3.os, O3.tape, O3.output, Nat.le_of_eq O3.size.symm, fun k hk => O3.block k (by omega)⟩ : Below w.heap.size w2 w3)

end Go.Proofs.YtommlgdolahfbaaDoor
