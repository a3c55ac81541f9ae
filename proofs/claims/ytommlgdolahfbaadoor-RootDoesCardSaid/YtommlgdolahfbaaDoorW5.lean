import Derived.Test.YtommlgdolahfbaaDoorL5
import Derived.Test.YtommlgdolahfbaaDoorW1
namespace Go.Proofs.YtommlgdolahfbaaDoor
set_option maxRecDepth 100000
open Go.RowKit

theorem below_grown {w w' : World} {g : Nat} (h : Below w.heap.size w w') : w.grownBy w' (some g) := ⟨h.os, h.tape, h.output, h.size, fun k hk _ => h.block k hk⟩

/-- slices.Insert of one page into a row that has no room. -/
theorem insert_any (gw n gv i : Nat) (ws : List Value) (x y : Value) (w : World) (hw : Blk w gw 56 ws.toArray) (hl : ws.length = n * 2) (hv : Blk w gv 56 #[x, y]) (hx : x.oneCell' = true) (hy : y.oneCell' = true)
    (h1 : ∀ v ∈ ws, v.oneCell' = true) (hn : n ≤ 100000) (hi : i ≤ n) :
    Calls Tryd.prog 50 #[.slice (some ⟨gw, 0, none⟩) n n, .int .i64 i, .slice (some ⟨gv, 0, none⟩) 1 1] w fun e w' => ∃ A5 c5, e = .returned (.slice A5 (n + 1) c5) ∧
      w'.ownsRow gw 56 2 (.slice A5 (n + 1) c5) (n + 1) (ws.take (i * 2) ++ ([x, y] ++ ws.drop (i * 2))) ∧ w.grownBy w' (some gw) := by
  have form : ∀ {w' : World} {v : Value} {m : Nat} {cs : List Value}, w'.ownsRow gw 56 2 v (m + 1) cs → ∃ A c, v = .slice A (m + 1) c := by
    intro w' v m cs h
    rcases h.2 with ⟨_, h0⟩ | ⟨g, cap, cur, rfl, _⟩
    · omega
    · exact ⟨_, _, rfl⟩
  rcases Nat.lt_or_ge i n with h | h
  · refine (insert_mid gw n gv i ws x y w hw hl hv hx hy h1 hn h).mono ?_
    rintro e w' ⟨v', rfl, ho, hb⟩
    have ho' := ownsRow_mono ho (Nat.le_of_lt hw.lt)
    obtain ⟨A, c, rfl⟩ := form ho'
    exact ⟨A, c, rfl, ho', below_grown hb⟩
  · obtain rfl : i = n := by omega
    refine (insert_end gw i gv ws x y w hw hl hv hx hy hn).mono ?_
    rintro e w' ⟨v', rfl, ho, hg⟩
    have e1 : ws.take (i * 2) ++ ([x, y] ++ ws.drop (i * 2)) = ws ++ [x, y] := by
      rw [← hl, List.take_length, List.drop_length, List.append_nil]
    rw [e1]
    obtain ⟨A, c, rfl⟩ := form ho
    exact ⟨A, c, rfl, ho, hg⟩

theorem grown_blk {w w' : World} {g g' : Nat} {t : TypeId} {cs : Array Value} (h : Blk w g t cs) (hg : w.grownBy w' (some g')) (hne : g ≠ g') : Blk w' g t cs := (hg.block g h.lt (by simpa using hne)).trans h

theorem Pgs.of_own' {w : World} {base : Nat} {v : Value} {ps : List Pg} {cs : List Value} {n : Nat} (hn : ps.length = n) (h : w.ownsRow base 56 2 v n cs)
    (hc : ∀ j p, ps[j]? = some p → ∃ bv, cs[j * 2]? = some (.int .i64 p.at_) ∧ cs[j * 2 + 1]? = some bv ∧ Bs base w.heap.size w bv p.b) : Pgs base w.heap.size w v ps := by
  subst hn; exact Pgs.of_own h hc

theorem pagesAt_one {ws : List Value} {ga : Nat} {ps : List Pg} (h : pagesAt ws ga ps.length ps) (hl : ws.length = ps.length * 2) : ∀ v ∈ ws, v.oneCell' = true := by
  intro v hv
  obtain ⟨j, hj, rfl⟩ := List.mem_iff_getElem.1 hv
  have hq : j / 2 < ps.length := by omega
  obtain ⟨e0, e1⟩ := h (j / 2) _ (List.getElem?_eq_getElem hq) hq
  rcases Nat.mod_two_eq_zero_or_one j with h2 | h2
  · rw [show j / 2 * 2 = j by omega, List.getElem?_eq_getElem hj] at e0
    injection e0 with e0
    rw [e0]; rfl
  · rw [show j / 2 * 2 + 1 = j by omega, List.getElem?_eq_getElem hj] at e1
    injection e1 with e1
    rw [e1]; rfl

theorem own_grown {w w' : World} {base : Nat} {e : TypeId} {size : Nat} {v : Value} {n : Nat} {xs : List Value} {g : Nat} {t : TypeId} {cs : Array Value} (h : w.ownsRow base e size v n xs) (hg : Blk w g t cs) (hne : e ≠ t) (hw : w.grownBy w' (some g)) : w'.ownsRow base e size v n xs := by
  obtain ⟨h1, h2⟩ := h
  refine ⟨h1, ?_⟩
  rcases h2 with h2 | ⟨g', cap, cur, hv, hb, hh, r⟩
  · exact .inl h2
  · have h3 : g' ≠ g := Blk.ne_ (t := e) (cs := cur) hh hg hne
    exact .inr ⟨g', cap, cur, hv, hb, (hw.block g' (Blk.lt (t := e) (cs := cur) hh) (by simpa using h3)).trans hh, r⟩

set_option maxHeartbeats 40000000 in
/-- Write's closure: the disk with the sector's page; its deeds are not counted yet. -/
theorem write1_any (lo gd gt gb : Nat) (va vb bb : Value) (d : Dk) (at_ : Int) (b : List UInt8) (w : World) (h : Dsk lo w.heap.size w (.agg #[va, vb, .int .i64 d.left]) d)
    (hd : Blk w gd 31 #[va, vb, .int .i64 d.left]) (ht : Blk w gt 3 #[.int .i64 at_]) (hbb : Blk w gb 28 #[bb]) (hb : Bs lo w.heap.size w bb b) (hb32 : b.length = 32)
    (hL : d.dry.length ≤ 1000000) (hW : d.wet.length ≤ 1000) (h32 : ∀ (j : Nat) (q : Pg), d.wet[j]? = some q → q.b.length = 32) (hr : Rises d.wet) :
    Calls Tryd.prog 47 #[.pointer (some ⟨gd, 0, none⟩), .pointer (some ⟨gt, 0, none⟩), .pointer (some ⟨gb, 0, none⟩)] w fun e w' => ∃ v', e = .returned v' ∧ Dsk w.heap.size w'.heap.size w' v' { d with wet := wrPg d.wet at_ b } ∧ Below w.heap.size w w' := by
  have hcl : ∀ W, Below w.heap.size w W → Calls Tryd.prog 48 #[.agg #[va, vb, .int .i64 d.left]] W fun e w' => ∃ v', e = .returned v' ∧ CloneOut w' v' d W.heap.size ∧ Below W.heap.size W w' :=
    fun W hB => clone_any lo _ d W ((h.below hB (Nat.le_refl _)).mono (Nat.le_refl _) hB.size) hL hW h32
  replace hcl := hide hcl
  have g0 := hd.cell 0; have g1 := hd.cell 1; have g2 := hd.cell 2
  have gt0 := ht.cell 0
  have gb0 := hbb.cell 0
  simp at g0 g1 g2 gt0 gb0
  have z1 := hd.lt; have z2 := ht.lt; have z3 := hbb.lt
  replace hd := hide hd; replace ht := hide ht; replace hbb := hide hbb; replace hr := hide hr; replace h32 := hide h32; replace h := hide h; replace hb := hide hb; replace hb32 := hide hb32
  go_enter Tryd.func47, Tryd.ntmps47
  go_wp2_with (first
    | (go_at_call 48; refine (unhide hcl _ (by (repeat (first | with_reducible exact Below.refl _ _ | with_reducible assumption | with_reducible refine Below.drew ?_ | with_reducible refine bl_alloc ?_ _ | with_reducible refine bl_call ?_ (by assumption) | (focus (with_reducible refine Below.setCell ?_ ?_ _; rotate_left; focus (first | omega | (simp <;> omega)))) | fail)))).mono ?_; rintro e w1 ⟨v', rfl, hco, hb1⟩
       have hds := hco.dsk (unhide h32) (by omega)
       obtain ⟨A', c', gw, ga, ws, bs, rfl, ho, hw, hwl, hbk, hbl, hp, hq, y1, y2, hv⟩ := hco
       obtain ⟨_, _, e0, _, hpg⟩ := hds
       injection e0 with e0
       injection e0 with e0
       injection e0 with e0 e1
       injection e1 with e1 e2
       subst e0 e1
       clear e2
       have hfd : ∀ W, Below w1.heap.size w1 W → Calls Tryd.prog 49 #[.slice (some ⟨gw, 0, none⟩) d.wet.length d.wet.length, .int .i64 at_] W fun e w' => ∃ i : Nat, e = .returned (.tuple #[.int .i64 i, .bool (isAt d.wet at_ i)]) ∧ Place d.wet at_ i ∧ Below W.heap.size W w' :=
         fun W hB => find_any _ _ d.wet at_ W ((hpg.below hB (Nat.le_refl _)).mono (Nat.le_refl _) hB.size) (unhide hr) (by omega)
       replace hfd := hide hfd
       clear hpg
       replace ho := hide ho; replace hw := hide hw; replace hwl := hide hwl; replace hbk := hide hbk; replace hbl := hide hbl; replace hp := hide hp; replace hq := hide hq; replace hv := hide hv
       have u1 : gt < w1.heap.size := Nat.lt_of_lt_of_le z2 (Nat.le_trans (by simp) hb1.size)
       have u2 : gb < w1.heap.size := Nat.lt_of_lt_of_le z3 (Nat.le_trans (by simp) hb1.size)
       have u3 : w.heap.size < w1.heap.size := Nat.lt_of_lt_of_le (by simp) hb1.size
       have gt1 : w1.cell? ⟨gt, 0, none⟩ = some (.int .i64 at_) := (hb1.cell (p := ⟨gt, 0, none⟩) (by simp; omega)).trans (by go_simp)
       have gb1 : w1.cell? ⟨gb, 0, none⟩ = some bb := (hb1.cell (p := ⟨gb, 0, none⟩) (by simp; omega)).trans (by go_simp)
       have HB1 : Below w.heap.size w w1 := bl_call (by (repeat (first | with_reducible exact Below.refl _ _ | with_reducible assumption | with_reducible refine Below.drew ?_ | with_reducible refine bl_alloc ?_ _ | with_reducible refine bl_call ?_ (by assumption) | (focus (with_reducible refine Below.setCell ?_ ?_ _; rotate_left; focus (first | omega | (simp <;> omega)))) | fail))) hb1
       have KR : Hid (Blk w1 w.heap.size 31 #[.slice none 0 0, .slice none 0 0, .int .i64 0]) := Blk.below (Blk.new rfl) hb1 (by simp))
    | (go_at_call 49; refine (unhide hfd _ (by (repeat (first | with_reducible exact Below.refl _ _ | with_reducible assumption | with_reducible refine Below.drew ?_ | with_reducible refine bl_alloc ?_ _ | with_reducible refine bl_call ?_ (by assumption) | (focus (with_reducible refine Below.setCell ?_ ?_ _; rotate_left; focus (first | omega | (simp <;> omega)))) | fail)))).mono ?_; rintro e w2 ⟨i, rfl, hpl, hb2⟩)
    | fail)
  · rename_i hat
    have hin : i < d.wet.length := by
      have h1 := hat
      unfold isAt at h1
      rcases Nat.lt_or_ge i d.wet.length with h2 | h2
      · exact h2
      · rw [List.getElem?_eq_none h2] at h1; cases h1
    replace hat := hide hat
    have K4 : Hid (Blk w2 w1.heap.size 31 #[.slice A' d.dry.length c', .slice (some ⟨gw, 0, none⟩) d.wet.length d.wet.length, .int .i64 d.left]) := Blk.below (Blk.new rfl) hb2 (by simp)
    have KR2 : Hid (Blk w2 w.heap.size 31 #[.slice none 0 0, .slice none 0 0, .int .i64 0]) := Blk.below ((unhide KR).alloc _) hb2 (by simp; omega)
    have l1 := (unhide hw).lt
    have l2 := (unhide hbk).lt
    have hw2 : Hid (Blk w2 gw 56 ws.toArray) := Blk.below ((unhide hw).alloc _) hb2 (by simp; omega)
    have hk2 : Hid (Blk w2 ga 5 bs.toArray) := Blk.below ((unhide hbk).alloc _) hb2 (by simp; omega)
    have ho2 : Hid (w2.ownsRow (w.alloc (.cells #[.slice none 0 0, .slice none 0 0, .int .i64 0] 31)).heap.size 5 1 (.slice A' d.dry.length c') d.dry.length (d.dry.map u8v)) := own_below ((unhide ho).alloc _) hb2 (Nat.le_refl _)
    have HB2 : Below w.heap.size w w2 := bl_call (bl_alloc HB1 _) hb2
    have gt2 : w2.cell? ⟨gt, 0, none⟩ = some (.int .i64 at_) := (hb2.cell (p := ⟨gt, 0, none⟩) (by simp; omega)).trans (by go_simp)
    have gb2 : w2.cell? ⟨gb, 0, none⟩ = some bb := (hb2.cell (p := ⟨gb, 0, none⟩) (by simp; omega)).trans (by go_simp)
    have q1 := (unhide K4).cell 1
    simp at q1
    simp at y1 y2
    have HPL := hide hpl
    clear hpl gt1 gb1 hb1 hb2 ho hw hbk KR hfd hcl g0 g1 g2 gt0 gb0
    obtain ⟨p, hpi⟩ : ∃ p, d.wet[i]? = some p := ⟨_, List.getElem?_eq_getElem hin⟩
    have hpg := (unhide hp) i p hpi hin
    have q2 := (unhide hw2).cell (i * 2 + 1)
    rw [show ws.toArray[i * 2 + 1]? = some (.slice (some ⟨ga, i * 32, none⟩) 32 32) by simpa using hpg.2] at q2
    have hbs := (((unhide hb).below HB2 (Nat.le_refl _)))
    obtain ⟨Ab, cb, rfl, _, _, _⟩ := id hbs
    have hsrc := hbs.src.2
    rw [unhide hb32] at hsrc gb2
    have x1 : (b.map u8v).length = 32 * 1 := by simp [unhide hb32]
    have x2 : i * 32 + (b.map u8v).length ≤ bs.length := by simp [unhide hb32, unhide hbl]; omega
    have x3 := u8s_one b
    have x4 : (32 : Nat) = Nat.min 32 32 := rfl
    have x5 : SrcOk w2.drew Ab (b.map u8v).length (b.map u8v) := by rw [x1]; exact hsrc
    replace x1 := hide x1; replace x2 := hide x2; replace x3 := hide x3; replace x4 := hide x4; replace x5 := hide x5; replace hpi := hide hpi
    clear hsrc hpg hbs
    have n1 : w1.heap.size ≠ ga := by omega
    have n2 : gw ≠ ga := (unhide hw2).ne_ (unhide hk2) (by decide)
    have n3 : gb ≠ ga := by omega
    have i1 : (0 : Int) ≤ (i : Int) := by omega
    have i2 : (i : Int) < (d.wet.length : Int) := by omega
    go_region_held3 (fun W => W.cell? ⟨w1.heap.size, 1, none⟩ = some (.slice (some ⟨gw, 0, none⟩) d.wet.length d.wet.length) ∧ W.cell? ⟨gw, i * 2 + 1, none⟩ = some (.slice (some ⟨ga, i * 32, none⟩) 32 32) ∧ W.cell? ⟨gb, 0, none⟩ = some (.slice Ab 32 cb)) (first | exact ⟨by go_simp, by go_simp, by go_simp⟩)
      (first | (refine step_copyN rfl (.tmp 22) (.tmp 23) 28 28 rfl 5 1 Tryd.underlying28 (by kernel_rfl) _ _ _ _ _ _ rfl rfl ga (i * 32) bs 5 (Blk.drew (unhide hk2)) (b.map u8v) 32 (unhide x4) (unhide x1) (fun _ => ⟨rfl, unhide x5⟩) (unhide x2) (unhide x3) ?_; intro w3 B3 O3; have s1 := O3.cell (p := ⟨w1.heap.size, 1, none⟩) n1; have s2 := O3.cell (p := ⟨gw, i * 2 + 1, none⟩) n2; have s3 := O3.cell (p := ⟨gb, 0, none⟩) n3))
    have K4' := (Blk.drew (unhide K4)).only O3 n1
    have KR' := (Blk.drew (unhide KR2)).only O3 (by omega)
    have hw' := (Blk.drew (unhide hw2)).only O3 n2
    have ho' := own_only (w := w2.drew) (unhide ho2) O3 (unhide hv)
    have HB3 : Below w.heap.size w w3 := HB2.trans (⟨O3.os, O3.tape, O3.output, Nat.le_of_eq O3.size.symm, fun k hk => O3.block k (by omega)⟩ : Below w.heap.size w2 w3)
    have c0 := K4'.cell 0; have c1 := K4'.cell 1; have c2 := K4'.cell 2
    have r0 := KR'.cell 0; have r1 := KR'.cell 1; have r2 := KR'.cell 2
    have f0 := KR'.frozen 0; have f1 := KR'.frozen 1; have f2 := KR'.frozen 2
    have dR : w.heap.size ≠ gw := KR'.ne_ hw' (by decide)
    have dR' : w.heap.size ≠ ga := by omega
    replace K4' := hide K4'; replace KR' := hide KR'; replace hw' := hide hw'; replace ho' := hide ho'; replace HB3 := hide HB3
    simp at c0 c1 c2 r0 r1 r2
    clear s1 s2 s3 q1 q2 gt2 gb2
    go_wp2_with fail
    refine ret_disk rfl w.heap.size #[.slice A' d.dry.length c', .slice (some ⟨gw, 0, none⟩) d.wet.length d.wet.length, .int .i64 d.left] rfl rfl (unhide KR').set3 rfl ?_
    have hpat : p.at_ = at_ := by
      have h1 := unhide hat
      unfold isAt at h1
      rw [unhide hpi] at h1
      simpa using h1
    refine ⟨_, rfl, ?_, ?_⟩
    · rw [wrPg_at (unhide HPL) (unhide hr) (unhide hat), ← hpat]
      have hco : CloneOut _ (.agg #[.slice A' d.dry.length c', .slice (some ⟨gw, 0, none⟩) d.wet.length d.wet.length, .int .i64 d.left]) { d with wet := d.wet.set i ⟨p.at_, b⟩ } (w.alloc (.cells #[.slice none 0 0, .slice none 0 0, .int .i64 0] 31)).heap.size :=
        ⟨A', c', gw, ga, ws, _, by simp, own_set3 (x := .slice A' d.dry.length c') (y := .slice (some ⟨gw, 0, none⟩) d.wet.length d.wet.length) (z := .int .i64 d.left) (unhide ho') (unhide KR') (by decide),
          (((unhide hw').far (p := ⟨w.heap.size, 0, none⟩) (Ne.symm dR) _).far (p := ⟨w.heap.size, 1, none⟩) (Ne.symm dR) _).far (p := ⟨w.heap.size, 2, none⟩) (Ne.symm dR) _, by simpa using unhide hwl,
          (((unhide B3).far (p := ⟨w.heap.size, 0, none⟩) (Ne.symm dR') _).far (p := ⟨w.heap.size, 1, none⟩) (Ne.symm dR') _).far (p := ⟨w.heap.size, 2, none⟩) (Ne.symm dR') _, by rw [length_splice _ _ _ (unhide x2)]; simpa using unhide hbl,
          by simpa using pagesAt_set (unhide hp) (unhide hpi), by simpa using bytesAt_set (unhide hq) (unhide hpi) (unhide h32) (unhide hb32) (unhide hbl) hin, by simp; omega, by simp; omega, unhide hv⟩
      refine (hco.dsk ?_ (by simp; omega)).mono (by simp) (Nat.le_refl _)
      intro j q hq'
      simp only [] at hq'
      by_cases hij : i = j
      · subst hij
        rw [List.getElem?_set_self hin] at hq'
        injection hq' with hq'
        subst hq'
        exact unhide hb32
      · rw [List.getElem?_set_ne hij] at hq'
        exact (unhide h32) j q hq'
    · have bl' := unhide HB3
      (repeat (first | with_reducible exact Below.refl _ _ | with_reducible assumption | with_reducible refine Below.drew ?_ | with_reducible refine bl_alloc ?_ _ | with_reducible refine bl_call ?_ (by assumption) | (focus (with_reducible refine Below.setCell ?_ ?_ _; rotate_left; focus (first | omega | (simp <;> omega)))) | fail))
  · rename_i hat
    replace hat : isAt d.wet at_ i = false := by simpa using hat
    replace hat := hide hat
    have K4 : Hid (Blk w2 w1.heap.size 31 #[.slice A' d.dry.length c', .slice (some ⟨gw, 0, none⟩) d.wet.length d.wet.length, .int .i64 d.left]) := Blk.below (Blk.new rfl) hb2 (by simp)
    have KR2 : Hid (Blk w2 w.heap.size 31 #[.slice none 0 0, .slice none 0 0, .int .i64 0]) := Blk.below ((unhide KR).alloc _) hb2 (by simp; omega)
    have l1 := (unhide hw).lt
    have l2 := (unhide hbk).lt
    have hw2 : Hid (Blk w2 gw 56 ws.toArray) := Blk.below ((unhide hw).alloc _) hb2 (by simp; omega)
    have hk2 : Hid (Blk w2 ga 5 bs.toArray) := Blk.below ((unhide hbk).alloc _) hb2 (by simp; omega)
    have ho2 : Hid (w2.ownsRow (w.alloc (.cells #[.slice none 0 0, .slice none 0 0, .int .i64 0] 31)).heap.size 5 1 (.slice A' d.dry.length c') d.dry.length (d.dry.map u8v)) := own_below ((unhide ho).alloc _) hb2 (Nat.le_refl _)
    have HB2 : Below w.heap.size w w2 := bl_call (bl_alloc HB1 _) hb2
    have gt2 : w2.cell? ⟨gt, 0, none⟩ = some (.int .i64 at_) := (hb2.cell (p := ⟨gt, 0, none⟩) (by simp; omega)).trans (by go_simp)
    have gb2 : w2.cell? ⟨gb, 0, none⟩ = some bb := (hb2.cell (p := ⟨gb, 0, none⟩) (by simp; omega)).trans (by go_simp)
    have q1 := (unhide K4).cell 1
    simp at q1
    simp at y1 y2
    have HPL := hide hpl
    clear hpl gt1 gb1 hb1 hb2 ho hw hbk KR hfd hcl g0 g1 g2 gt0 gb0
    have hile : i ≤ d.wet.length := (unhide HPL).1
    have hcb : ∀ W, Below w.heap.size w W → Calls Tryd.prog 51 #[bb] W fun e w' => ∃ A' c', e = .returned (.slice A' b.length c') ∧ w'.ownsRow W.heap.size 5 1 (.slice A' b.length c') b.length (b.map u8v) ∧ Below W.heap.size W w' :=
      fun W hB => bclone lo bb b W (((unhide hb).below hB (Nat.le_refl _)).mono (Nat.le_refl _) hB.size) (by rw [unhide hb32]; omega)
    have hone : ∀ v ∈ ws, v.oneCell' = true := pagesAt_one (unhide hp) (unhide hwl)
    replace hcb := hide hcb; replace hone := hide hone
    have n1 : w1.heap.size ≠ gw := by omega
    have n4 : gt ≠ gw := by omega
    have n5 : gb ≠ gw := by omega
    have m1 : w1.heap.size < w2.heap.size := (unhide K4).lt
    have m2 : gt < w2.heap.size := by omega
    have m3 : gb < w2.heap.size := by omega
    have m4 : gw < w2.heap.size := by omega
    go_cut [] (fun wx => ∃ (A5 Ab : Option Addr) (c5 cb : Nat), Hid (Blk wx w1.heap.size 31 #[.slice A' d.dry.length c', .slice A5 (d.wet.length + 1) c5, .int .i64 d.left]) ∧ Hid (Blk wx w.heap.size 31 #[.slice none 0 0, .slice none 0 0, .int .i64 0]) ∧
      Hid (wx.ownsRow gw 56 2 (.slice A5 (d.wet.length + 1) c5) (d.wet.length + 1) (ws.take (i * 2) ++ ([.int .i64 at_, .slice Ab b.length cb] ++ ws.drop (i * 2)))) ∧ Hid (Blk wx ga 5 bs.toArray) ∧
      Hid (wx.ownsRow (w.alloc (.cells #[.slice none 0 0, .slice none 0 0, .int .i64 0] 31)).heap.size 5 1 (.slice A' d.dry.length c') d.dry.length (d.dry.map u8v)) ∧
      Hid (wx.ownsRow w.heap.size 5 1 (.slice Ab b.length cb) b.length (b.map u8v)) ∧ Hid (Below w.heap.size w wx))
    case first =>
      go_region_with
        (first
          | (go_at_call 51; refine (unhide hcb _ (HB2.drew)).mono ?_; rintro e w3 ⟨Ab, cb, rfl, hob, hb3⟩
             have m5 : w2.heap.size ≤ w3.heap.size := hb3.size
             have k3 := hide (Blk.below (Blk.drew (unhide hw2)) hb3 m4)
             have k4 := hide (Blk.below (Blk.drew (unhide K4)) hb3 m1)
             have q3 : w3.cell? ⟨w1.heap.size, 1, none⟩ = some (.slice (some ⟨gw, 0, none⟩) d.wet.length d.wet.length) := ((unhide k4).cell 1).trans rfl
             have t3 : w3.cell? ⟨gt, 0, none⟩ = some (.int .i64 at_) := (hb3.cell (p := ⟨gt, 0, none⟩) m2).trans gt2
             have t4 : w3.cell? ⟨gb, 0, none⟩ = some bb := (hb3.cell (p := ⟨gb, 0, none⟩) m3).trans gb2
             have m6 : gt < w3.heap.size := Nat.lt_of_lt_of_le m2 m5
             have m7 : gb < w3.heap.size := Nat.lt_of_lt_of_le m3 m5
             have m8 : w1.heap.size < w3.heap.size := Nat.lt_of_lt_of_le m1 m5
             replace hob := hide hob)
          | (go_at_call 50; refine (insert_any gw d.wet.length w3.heap.size i ws (.int .i64 at_) (.slice Ab b.length cb) _ ((unhide k3).alloc _) (unhide hwl) (Blk.new rfl) rfl rfl (unhide hone) (by omega) hile).mono ?_; rintro e w5 ⟨A5, c5, rfl, ho5, hg5⟩
             have k5 := hide (grown_blk ((unhide k4).alloc (.cells #[.int .i64 at_, .slice Ab b.length cb] 56)) hg5 n1)
             have e1 := (unhide k5).cell 1
             have e1' : w5.cell? ⟨w1.heap.size, 1, none⟩ = some (.slice (some ⟨gw, 0, none⟩) d.wet.length d.wet.length) := e1.trans rfl
             have e2 := (unhide k5).frozen 1
             have t5 : w5.cell? ⟨gt, 0, none⟩ = some (.int .i64 at_) := (hg5.cell_far _ (Nat.lt_of_lt_of_le m6 (by simp)) (by simpa using n4)).trans (by go_simp)
             have t6 : w5.cell? ⟨gb, 0, none⟩ = some bb := (hg5.cell_far _ (Nat.lt_of_lt_of_le m7 (by simp)) (by simpa using n5)).trans (by go_simp)
             clear e1
             replace ho5 := hide ho5; replace hg5 := hide hg5))
      all_goals (go_wp2_with fail; go_meet)
      all_goals
        have G3 := (unhide k3).alloc (.cells #[.int .i64 at_, .slice Ab b.length cb] 56)
        refine ⟨A5, Ab, c5, cb, ?_, ?_, ?_, ?_, ?_, ?_, ?_⟩
        · exact hide (by simpa using (unhide k5).set 1 (.slice A5 (d.wet.length + 1) c5))
        · exact hide ((grown_blk ((Blk.below (Blk.drew (unhide KR2)) hb3 (Nat.lt_trans u3 m1)).alloc (.cells #[.int .i64 at_, .slice Ab b.length cb] 56)) (unhide hg5) (by omega)).far (p := ⟨w1.heap.size, 1, none⟩) (by simp; omega) _)
        · exact hide (own_far (unhide ho5) (unhide k5) (by decide) 1 _)
        · exact hide ((grown_blk ((Blk.below (Blk.drew (unhide hk2)) hb3 (Nat.lt_trans l2 m1)).alloc (.cells #[.int .i64 at_, .slice Ab b.length cb] 56)) (unhide hg5) (by have := (unhide hk2).ne_ (unhide hw2) (by decide); exact this)).far (p := ⟨w1.heap.size, 1, none⟩) (by simp; omega) _)
        · exact hide (own_far (own_grown ((own_below (w := w2.drew) (unhide ho2) hb3 (Nat.le_refl _)).alloc (.cells #[.int .i64 at_, .slice Ab b.length cb] 56)) G3 (by decide) (unhide hg5)) (unhide k5) (by decide) 1 _)
        · exact hide (ownsRow_mono (own_far (own_grown ((unhide hob).alloc (.cells #[.int .i64 at_, .slice Ab b.length cb] 56)) G3 (by decide) (unhide hg5)) (unhide k5) (by decide) 1 _) (by show w.heap.size ≤ w2.heap.size; omega))
        · have B5 : Below w.heap.size w w5 := bl_grown (bl_alloc (bl_call HB2.drew hb3) _) (unhide hg5) (by intro k hk; injection hk with hk; omega)
          exact hide (B5.setCell (p := ⟨w1.heap.size, 1, none⟩) (by simp; omega) _)
    case rest =>
      obtain ⟨A5, Ab, c5, cb, a1, a2, a3, a4, a5, a6, a7⟩ := hcut
      clear q1 gt2 gb2
      have c0 := (unhide a1).cell 0; have c1 := (unhide a1).cell 1; have c2 := (unhide a1).cell 2
      have r0 := (unhide a2).cell 0; have r1 := (unhide a2).cell 1; have r2 := (unhide a2).cell 2
      have f0 := (unhide a2).frozen 0; have f1 := (unhide a2).frozen 1; have f2 := (unhide a2).frozen 2
      simp at c0 c1 c2 r0 r1 r2
      go_wp2_with fail
      refine ret_disk rfl w.heap.size #[.slice A' d.dry.length c', .slice A5 (d.wet.length + 1) c5, .int .i64 d.left] rfl rfl (unhide a2).set3 rfl ?_
      refine ⟨_, rfl, ⟨_, _, rfl, Bs.of_own (ownsRow_mono (own_set3 (x := .slice A' d.dry.length c') (y := .slice A5 (d.wet.length + 1) c5) (z := .int .i64 d.left) (unhide a5) (unhide a2) (by decide)) (by simp)), ?_⟩, ?_⟩
      · have hlen : (wrPg d.wet at_ b).length = d.wet.length + 1 := by rw [wrPg_not (unhide HPL) (unhide hr) (unhide hat)]; simp; omega
        have ho := own_set3 (x := .slice A' d.dry.length c') (y := .slice A5 (d.wet.length + 1) c5) (z := .int .i64 d.left) (unhide a3) (unhide a2) (by decide)
        have hob := Bs.of_own (own_set3 (x := .slice A' d.dry.length c') (y := .slice A5 (d.wet.length + 1) c5) (z := .int .i64 d.left) (unhide a6) (unhide a2) (by decide))
        have hga := (((unhide a4).far (p := ⟨w.heap.size, 0, none⟩) (by simp; omega) (.slice A' d.dry.length c')).far (p := ⟨w.heap.size, 1, none⟩) (by simp; omega) (.slice A5 (d.wet.length + 1) c5)).far (p := ⟨w.heap.size, 2, none⟩) (by simp; omega) (.int .i64 d.left)
        show Pgs _ _ _ _ (wrPg d.wet at_ b)
        refine Pgs.of_own' hlen (ownsRow_mono ho (by omega)) fun j p hj => ?_
        rw [wrPg_not (unhide HPL) (unhide hr) (unhide hat)] at hj
        have l1' := unhide hwl
        have lt : (ws.take (i * 2)).length = i * 2 := by rw [List.length_take]; omega
        have ltp : (d.wet.take i).length = i := by rw [List.length_take]; omega
        rcases Nat.lt_or_ge j i with h1 | h1
        · rw [List.getElem?_append_left (by rw [ltp]; exact h1), List.getElem?_take_of_lt h1] at hj
          obtain ⟨e0, e1⟩ := (unhide hp) j p hj (by omega)
          refine ⟨_, ?_, ?_, (Bs.of_blk hga (by omega) ((unhide h32) j p hj) ((unhide hq) j p hj (by omega)))⟩
          · rw [List.getElem?_append_left (by rw [lt]; omega), List.getElem?_take_of_lt (by omega)]; exact e0
          · rw [List.getElem?_append_left (by rw [lt]; omega), List.getElem?_take_of_lt (by omega)]; exact e1
        · rw [List.getElem?_append_right (by rw [ltp]; exact h1), ltp] at hj
          rcases Nat.lt_or_ge i j with h2 | h2
          · obtain ⟨k, rfl⟩ : ∃ k, j = i + 1 + k := ⟨j - i - 1, by omega⟩
            rw [show i + 1 + k - i = k + 1 by omega, List.getElem?_cons_succ, List.getElem?_drop] at hj
            obtain ⟨e0, e1⟩ := (unhide hp) (i + k) p hj (List.getElem?_eq_some_iff.1 hj).1
            refine ⟨_, ?_, ?_, (Bs.of_blk hga (by omega) ((unhide h32) _ p hj) ((unhide hq) _ p hj (List.getElem?_eq_some_iff.1 hj).1))⟩
            · rw [List.getElem?_append_right (by rw [lt]; omega), lt, List.getElem?_append_right (by simp; omega), List.getElem?_drop, ← e0]
              congr 1
              simp only [List.length_cons, List.length_nil]
              omega
            · rw [List.getElem?_append_right (by rw [lt]; omega), lt, List.getElem?_append_right (by simp; omega), List.getElem?_drop, ← e1]
              congr 1
              simp only [List.length_cons, List.length_nil]
              omega
          · obtain rfl : j = i := by omega
            rw [Nat.sub_self, List.getElem?_cons_zero] at hj
            injection hj with hj
            subst hj
            refine ⟨.slice Ab b.length cb, ?_, ?_, hob⟩
            · rw [List.getElem?_append_right (by rw [lt]; omega), lt, Nat.sub_self]; rfl
            · rw [List.getElem?_append_right (by rw [lt]; omega), lt, show j * 2 + 1 - j * 2 = 1 by omega]; rfl
      · have bl' := unhide a7
        (repeat (first | with_reducible exact Below.refl _ _ | with_reducible assumption | with_reducible refine Below.drew ?_ | with_reducible refine bl_alloc ?_ _ | with_reducible refine bl_call ?_ (by assumption) | (focus (with_reducible refine Below.setCell ?_ ?_ _; rotate_left; focus (first | omega | (simp <;> omega)))) | fail))

end Go.Proofs.YtommlgdolahfbaaDoor
