import Derived.Test.YtcgfcdbchcehmaaR42
import Derived.Test.YtcgfcdbchcehmaaR41
namespace Go.Proofs.Ytcgfcdbchcehmaa
open Go.RowKit

theorem bit_walk2 (m : UInt8) (k : Nat) : (((m.toNat : Int) / 2 ^ k).tmod 2 == 1) = bitOf m k := by
  have e1 : ((m.toNat : Int) / 2 ^ k) = ((m.toNat / 2 ^ k : Nat) : Int) := by simp
  rw [e1]
  unfold bitOf
  generalize m.toNat / 2 ^ k = q
  rw [Bool.eq_iff_iff, Int.tmod_eq_emod_of_nonneg (by omega)]
  simp
  omega
theorem crAt_min (dry : List UInt8) (wet : List Pg) (ms : List UInt8) : crAt dry wet ms wet.length = crAt dry wet ms (min wet.length ms.length) := by
  rcases Nat.le_total wet.length ms.length with h | h
  · rw [Nat.min_eq_left h]
  · rw [Nat.min_eq_right h]
    have : ∀ j, ms.length ≤ j → crAt dry wet ms j = crAt dry wet ms ms.length := by
      intro j hj
      induction j with
      | zero => rw [Nat.le_zero.1 hj]
      | succ j ih =>
        rcases Nat.lt_or_ge j ms.length with h1 | h1
        · rw [show j + 1 = ms.length by omega]
        · rw [← ih h1]
          simp only [crAt, List.getElem?_eq_none h1]
          cases wet[j]? <;> rfl
    exact this _ h
theorem crAt_past {dry : List UInt8} {wet : List Pg} {ms : List UInt8} {k : Nat} (h : ms.length ≤ k) : crAt dry wet ms (k + 1) = crAt dry wet ms k := by
  simp only [crAt, List.getElem?_eq_none h]
  cases wet[k]? <;> rfl
theorem Only.refl (g : Nat) (w : World) : Only g w w := ⟨rfl, rfl, rfl, rfl, fun _ _ => rfl⟩
theorem Only.trans {g : Nat} {a b c : World} (h : Only g a b) (k : Only g b c) : Only g a c := ⟨k.os.trans h.os, k.tape.trans h.tape, k.output.trans h.output, k.size.trans h.size, fun j hj => (k.block j hj).trans (h.block j hj)⟩
theorem Only.drew {g : Nat} {a b : World} (h : Only g a b) : Only g a.drew b := ⟨h.os, h.tape, h.output, h.size, h.block⟩


theorem elem22 : Try.prog.underlying 22 = some (.slice (Try.prog.elem 22)) := by kernel_rfl
theorem size5e : ∀ W, (sizeOf (Try.prog.elem 22)).run Try.prog W = .ok 1 W := fun W => by kernel_rfl
theorem addk (g o k : Nat) : (⟨g, o, none⟩ : Addr).add k = ⟨g, o + k, none⟩ := by
  unfold Addr.add
  split
  · rename_i h; subst h; rfl
  · rfl
theorem dslice_l (g n c i : Nat) (hi : i ≤ n) (hc : c ≠ i) (W : World) :
    (Instr.slice 22 (.slice (some ⟨g, 0, none⟩) n c) (some (.int .i64 (i : Int))) none none).run Try.prog W = .ok (.slice (some ⟨g, i, none⟩) (n - i) (c - i)) W := by
  rw [run_slice_l (P := Try.prog) W 22 (some ⟨g, 0, none⟩) n c elem22 .i64 i (by omega) (by omega), size5e]
  simp only [Result.andThen, sliced, Int.toNat_natCast]
  rw [if_neg hc]
  simp only [Option.map_some, Nat.mul_one, addk, Nat.zero_add]
theorem dslice_lh (g o n c i j : Nat) (hij : i ≤ j) (hj : j ≤ c) (hc : c ≠ i) (W : World) :
    (Instr.slice 22 (.slice (some ⟨g, o, none⟩) n c) (some (.int .i64 (i : Int))) (some (.int .i64 (j : Int))) none).run Try.prog W = .ok (.slice (some ⟨g, o + i, none⟩) (j - i) (c - i)) W := by
  rw [run_slice_lh (P := Try.prog) W 22 (some ⟨g, o, none⟩) n c elem22 .i64 .i64 i j (by omega) (by omega) (by omega), size5e]
  simp only [Result.andThen, sliced, Int.toNat_natCast]
  rw [if_neg hc]
  simp only [Option.map_some, Nat.mul_one, addk]

set_option maxHeartbeats 1000000 in
theorem refcrash_bad (lo : Nat) (v : Value) (d : Dk) (mv : Value) (w : World) (h : Dsk lo w.heap.size w v d) (hq : okD d = false) :
    Calls Try.prog 28 #[v, mv] w fun e w' => e = .returned (.tuple #[.agg #[.slice none 0 0, .slice none 0 0, .int .i64 0], .int .i64 1]) ∧ Below w.heap.size w w' := by
  have hck : ∀ W, Below w.heap.size w W → Calls Try.prog 25 #[v] W fun e w' => e = .returned (.int .i64 (badE false)) ∧ Below W.heap.size W w' :=
    fun W hB => by have := refcheck_any lo v d W ((h.below hB (Nat.le_refl _)).mono (Nat.le_refl _) hB.size); rwa [hq] at this
  obtain ⟨A, c, A', c', rfl⟩ := h.form
  replace hck := hide hck; replace hq := hide hq; replace h := hide h
  have b1 : (badE false != 0) = true := rfl
  go_enter Try.func28, Try.ntmps28
  go_wp2_with (first
    | (go_at_call 25; refine (unhide hck _ (by (repeat (first | with_reducible exact Below.refl _ _ | with_reducible assumption | with_reducible refine Below.drew ?_ | with_reducible refine bl_alloc ?_ _ | with_reducible refine bl_call ?_ (by assumption) | (focus (with_reducible refine Below.setCell ?_ ?_ _; rotate_left; focus (first | omega | (simp <;> omega)))) | fail)))).mono ?_; rintro e w1 ⟨rfl, hb1⟩; have HB1 : Below w.heap.size w w1 := bl_call (by (repeat (first | with_reducible exact Below.refl _ _ | with_reducible assumption | with_reducible refine Below.drew ?_ | with_reducible refine bl_alloc ?_ _ | with_reducible refine bl_call ?_ (by assumption) | (focus (with_reducible refine Below.setCell ?_ ?_ _; rotate_left; focus (first | omega | (simp <;> omega)))) | fail))) hb1; have hk := hide (Blk.below (g := w.heap.size + 1) (t := 25) (cs := #[.slice none 0 0, .slice none 0 0, .int .i64 0]) (Blk.new (by simp)) hb1 (by simp)); have f0 := (unhide hk).frozen 0; have f1 := (unhide hk).frozen 1; have f2 := (unhide hk).frozen 2; have r0 := (unhide hk).cell 0; have r1 := (unhide hk).cell 1; have r2 := (unhide hk).cell 2; simp at r0 r1 r2; (obtain ⟨hc1, hf1⟩ := bcell hb1; have hz1 := hb1.size; (try have y0 : w.heap.size < w1.heap.size := (by (simp at hz1; omega))); (try have y1 : w.heap.size + 1 < w1.heap.size := (by (simp at hz1; omega))); (try have y2 : w.heap.size + 2 < w1.heap.size := (by (simp at hz1; omega))); (try have y3 : w.heap.size + 3 < w1.heap.size := (by (simp at hz1; omega))); clear hz1))
    | fail)
  refine ret_disk2 rfl (w.heap.size + 1) #[.slice none 0 0, .slice none 0 0, .int .i64 0] rfl (.int .i64 1) rfl rfl (unhide hk).set3 rfl ⟨rfl, ?_⟩
  (repeat (first | with_reducible exact Below.refl _ _ | with_reducible assumption | with_reducible refine Below.drew ?_ | with_reducible refine bl_alloc ?_ _ | with_reducible refine bl_call ?_ (by assumption) | (focus (with_reducible refine Below.setCell ?_ ?_ _; rotate_left; focus (first | omega | (simp <;> omega)))) | fail))

set_option maxRecDepth 100000 in
set_option maxHeartbeats 8000000 in
theorem refcrash_good (lo : Nat) (v : Value) (d : Dk) (Am : Option Addr) (cm : Nat) (ms : List UInt8) (w : World) (h : Dsk lo w.heap.size w v d) (hm : Bs lo w.heap.size w (.slice Am ms.length cm) ms) (hq : okD d = true) (hL : d.dry.length ≤ 1000000) (hW : d.wet.length ≤ 1000) :
    Calls Try.prog 28 #[v, .slice Am ms.length cm] w fun e w' => ∃ v', e = .returned (.tuple #[v', .int .i64 0]) ∧ Dsk w.heap.size w'.heap.size w' v' (crD d ms).1 ∧ Below w.heap.size w w' := by
  have hck : ∀ W, Below w.heap.size w W → Calls Try.prog 25 #[v] W fun e w' => e = .returned (.int .i64 0) ∧ Below W.heap.size W w' :=
    fun W hB => by have := refcheck_any lo v d W ((h.below hB (Nat.le_refl _)).mono (Nat.le_refl _) hB.size); rwa [hq] at this
  obtain ⟨_, hge, _, _, hr, hp⟩ := okD_parts hq
  have hcp : ∀ W, Below w.heap.size w W → Calls Try.prog 11 #[v] W fun e w' => ∃ v', e = .returned v' ∧ CopyOut W.heap.size w' v' d ∧ Below W.heap.size W w' :=
    fun W hB => refcopy_any lo v d W ((h.below hB (Nat.le_refl _)).mono (Nat.le_refl _) hB.size) hL hW (fun j q hj => by have := (hp j q hj).2.2; omega)
  obtain ⟨va, vb, rfl, ha, hb⟩ := h
  obtain ⟨A1, c1, rfl, _⟩ := ha
  obtain ⟨A, c, rfl, _, _, _⟩ := hb
  have hml : ms.length ≤ 9223372036854775807 := by obtain ⟨_, _, e, x1, x2, _⟩ := hm; omega
  obtain ⟨n, hn⟩ : ∃ n, n = d.wet.length := ⟨_, rfl⟩
  rw [← hn] at hck hcp hW ⊢
  have hcr : (crD d ms).1 = ⟨crAt d.dry d.wet ms n, [], -1⟩ := by rw [hn, crAt_min]; simp [crD, hq]
  replace hck := hide hck; replace hcp := hide hcp; replace hm := hide hm; replace hr := hide hr; replace hp := hide hp; replace hn := hide hn
  replace hcr := hide hcr; replace hq := hide hq
  go_enter Try.func28, Try.ntmps28
  go_wp2_with (first
    | (go_at_call 25; refine (unhide hck _ (by (repeat (first | with_reducible exact Below.refl _ _ | with_reducible assumption | with_reducible refine Below.drew ?_ | with_reducible refine bl_alloc ?_ _ | with_reducible refine bl_call ?_ (by assumption) | (focus (with_reducible refine Below.setCell ?_ ?_ _; rotate_left; focus (first | omega | (simp <;> omega)))) | fail)))).mono ?_; rintro e w1 ⟨rfl, hb1⟩; have HB1 : Below w.heap.size w w1 := bl_call (by (repeat (first | with_reducible exact Below.refl _ _ | with_reducible assumption | with_reducible refine Below.drew ?_ | with_reducible refine bl_alloc ?_ _ | with_reducible refine bl_call ?_ (by assumption) | (focus (with_reducible refine Below.setCell ?_ ?_ _; rotate_left; focus (first | omega | (simp <;> omega)))) | fail))) hb1
       have kb := hide (Blk.below (g := w.heap.size) (t := 25) (cs := #[.slice A1 d.dry.length c1, .slice A n c, .int .i64 d.left]) (by (repeat (first | with_reducible assumption | (focus (with_reducible refine Blk.new ?_; focus (simp <;> fail))) | with_reducible refine Blk.set3 (a := .slice none 0 0) (b := .slice none 0 0) (c := .int .i64 0) ?_ | with_reducible refine Blk.alloc ?_ _ | with_reducible refine Blk.drew ?_ | (focus (with_reducible refine Blk.far ?_ ?_ _; rotate_left; focus (first | omega | (simp <;> omega)))) | (focus (with_reducible refine Blk.below ?_ hb1 ?_; rotate_left; focus (first | omega | (simp <;> omega)))) | fail))) hb1 (by simp <;> omega))
       have kr := hide (Blk.below (g := w.heap.size + 1) (t := 25) (cs := #[.slice none 0 0, .slice none 0 0, .int .i64 0]) (by (repeat (first | with_reducible assumption | (focus (with_reducible refine Blk.new ?_; focus (simp <;> fail))) | with_reducible refine Blk.set3 (a := .slice none 0 0) (b := .slice none 0 0) (c := .int .i64 0) ?_ | with_reducible refine Blk.alloc ?_ _ | with_reducible refine Blk.drew ?_ | (focus (with_reducible refine Blk.far ?_ ?_ _; rotate_left; focus (first | omega | (simp <;> omega)))) | (focus (with_reducible refine Blk.below ?_ hb1 ?_; rotate_left; focus (first | omega | (simp <;> omega)))) | fail))) hb1 (by simp))
       have k0 := (unhide kb).cell 0; have k1 := (unhide kb).cell 1; have k2 := (unhide kb).cell 2
       simp at k0 k1 k2
       have y0 := (unhide kb).lt; have y1 := (unhide kr).lt)
    | (go_at_call 11; refine (unhide hcp _ HB1).mono ?_; rintro e w2 ⟨v', rfl, hco, hb2⟩
       obtain ⟨A3, c3, Aw, cw, B, rfl, hD, hDB, hB1, hB2, hPg⟩ := hco
       have HB2 : Below w.heap.size w w2 := bl_call HB1 hb2
       replace kb := hide ((unhide kb).below hb2 y0); replace kr := hide ((unhide kr).below hb2 y1)
       clear k0 k1 k2
       have f0 := (unhide kb).frozen 0; have f1 := (unhide kb).frozen 1; have f2 := (unhide kb).frozen 2
       have k0 := (unhide kb).cell 0; have k1 := (unhide kb).cell 1; have k2 := (unhide kb).cell 2
       simp at k0 k1 k2
       have z0 := (unhide kb).lt; have z1 := (unhide kr).lt
       rw [← unhide hn] at hPg
       replace hD := hide hD; replace hDB := hide hDB; replace hPg := hide hPg; replace HB2 := hide HB2)
    | fail)
  rw [← unhide hn]
  have Kb : Blk (((w2.setCell ⟨w.heap.size, 0, none⟩ (.slice A3 d.dry.length c3)).setCell ⟨w.heap.size, 1, none⟩ (.slice Aw n cw)).setCell ⟨w.heap.size, 2, none⟩ (.int .i64 d.left)) w.heap.size 25 #[.slice A3 d.dry.length c3, .slice Aw n cw, .int .i64 d.left] := (unhide kb).set3
  have Kr : Blk (((w2.setCell ⟨w.heap.size, 0, none⟩ (.slice A3 d.dry.length c3)).setCell ⟨w.heap.size, 1, none⟩ (.slice Aw n cw)).setCell ⟨w.heap.size, 2, none⟩ (.int .i64 d.left)) (w.heap.size + 1) 25 #[.slice none 0 0, .slice none 0 0, .int .i64 0] := (((unhide kr).far (by simp) _).far (by simp) _).far (by simp) _
  have Dr := own_set3 (x := .slice A3 d.dry.length c3) (y := .slice Aw n cw) (z := .int .i64 d.left) (unhide hD) (unhide kb) (by decide)
  have wB : w.heap.size < B := by omega
  have Pa : Pgs B w2.heap.size (((w2.setCell ⟨w.heap.size, 0, none⟩ (.slice A3 d.dry.length c3)).setCell ⟨w.heap.size, 1, none⟩ (.slice Aw n cw)).setCell ⟨w.heap.size, 2, none⟩ (.int .i64 d.left)) (.slice Aw n cw) d.wet := (unhide hPg).keep (fun k h1 _ => ((Below.heap_setCell _ _ _ k (by simp; omega)).trans (Below.heap_setCell _ _ _ k (by simp; omega))).trans (Below.heap_setCell _ _ _ k (by simp; omega)))
  have ba : Below w.heap.size w (((w2.setCell ⟨w.heap.size, 0, none⟩ (.slice A3 d.dry.length c3)).setCell ⟨w.heap.size, 1, none⟩ (.slice Aw n cw)).setCell ⟨w.heap.size, 2, none⟩ (.int .i64 d.left)) := (((unhide HB2).setCell (Nat.le_refl _) _).setCell (Nat.le_refl _) _).setCell (Nat.le_refl _) _
  have hsz : (((w2.setCell ⟨w.heap.size, 0, none⟩ (.slice A3 d.dry.length c3)).setCell ⟨w.heap.size, 1, none⟩ (.slice Aw n cw)).setCell ⟨w.heap.size, 2, none⟩ (.int .i64 d.left)).heap.size = w2.heap.size := by simp
  generalize ((w2.setCell ⟨w.heap.size, 0, none⟩ (.slice A3 d.dry.length c3)).setCell ⟨w.heap.size, 1, none⟩ (.slice Aw n cw)).setCell ⟨w.heap.size, 2, none⟩ (.int .i64 d.left) = wa at *
  obtain ⟨gD, capD, cur, hA', hgD, hbD, hncD, hcm, hszD, htkD⟩ : ∃ gD capD, ∃ cur : Array Value, (Value.slice A3 d.dry.length c3) = .slice (some ⟨gD, 0, none⟩) d.dry.length capD ∧ w1.heap.size ≤ gD ∧ Blk wa gD 5 cur ∧ d.dry.length ≤ capD ∧ capD ≤ maxLen ∧ cur.size = capD * 1 ∧ cur.toList.take (d.dry.length * 1) = d.dry.map u8v := by
    rcases Dr.2 with ⟨_, h0⟩ | ⟨g, cap, cur, x1, x2, x3, x4, x5, x6, x7⟩
    · omega
    · exact ⟨g, cap, cur, x1, x2, x3, x4, x5, x6, x7⟩
  injection hA' with hA1 _ hA2
  subst hA1 hA2
  obtain ⟨S, hS⟩ : ∃ S, cur.toList = d.dry.map u8v ++ S := ⟨cur.toList.drop (d.dry.length * 1), by rw [← htkD, List.take_append_drop]⟩
  have hbD' : Hid (Blk wa gD 5 (d.dry.map u8v ++ S).toArray) := by
    have : cur = (d.dry.map u8v ++ S).toArray := by rw [← hS, Array.toArray_toList]
    rw [← this]; exact hbD
  have gB : gD < B := unhide hDB _ _ _ rfl
  have hcap : c3 ≤ 9223372036854775807 := by simpa [maxLen] using hcm
  have nD0 : w.heap.size ≠ gD := by omega
  have nD1 : w.heap.size + 1 ≠ gD := by omega
  have wD : w.heap.size ≤ gD := by omega
  have B2a : B ≤ w2.heap.size := hB2
  clear hS htkD hszD hbD hD hDB hcm kb kr HB2 hPg HB1 hb1 hb2 f0 f1 f2 k0 k1 k2 y0 y1 z0 z1 Dr hck hcp
  have s0 := Kb.cell 0
  have s1 := Kb.cell 1
  simp at s0 s1
  generalize w2.heap.size = H2 at *
  obtain ⟨A4, c4, e4, _, _, hpA, hpC⟩ := Pa
  injection e4 with e41 e42 e43
  subst e41 e43
  clear e42
  replace Kb := hide Kb; replace Kr := hide Kr; replace ba := hide ba; replace hpA := hide hpA; replace hpC := hide hpC; replace hsz := hide hsz
  go_loopw [18] (fun i wr => ∃ k : Nat, k ≤ n ∧ i = .int .i64 k ∧ Hid (Blk wr gD 5 ((crAt d.dry d.wet ms k).map u8v ++ S).toArray) ∧ Hid (Blk wr w.heap.size 25 #[.slice (some ⟨gD, 0, none⟩) d.dry.length c3, .slice Aw n cw, .int .i64 d.left]) ∧ Hid (Blk wr (w.heap.size + 1) 25 #[.slice none 0 0, .slice none 0 0, .int .i64 0]) ∧ Hid (Agree B H2 wa wr) ∧ Hid (H2 ≤ wr.heap.size) ∧ Hid (Below w.heap.size w wr)) (fun i _ => n - (intOf i).toNat)
  case atStart => exact ⟨0, Nat.zero_le _, rfl, hbD', Kb, Kr, hide (Agree.refl _ _ _), hide (Nat.le_of_eq (unhide hsz).symm), ba⟩
  case round =>
    obtain ⟨k, hk, rfl, q1, q2, q3, q5, q6, q4⟩ := hrel
    clear s0 s1 Kb Kr ba hbD'
    have g0 := (unhide q2).cell 0
    have g1 := (unhide q2).cell 1
    simp at g0 g1
    have l1 := (unhide q1).lt
    have l2 := (unhide q2).lt
    by_cases hlt : k < n
    · have hlt1 : k < d.wet.length := by rw [← unhide hn]; exact hlt
      obtain ⟨b, off, rfl, hb1', hb2'⟩ := (unhide hpA) (by omega)
      obtain ⟨cs, hcs, hcc, bv, rfl, hbv⟩ := (unhide hpC) b off rfl k hlt1
      obtain ⟨p, hpe⟩ : ∃ p, d.wet[k] = p := ⟨_, rfl⟩
      have hpk : d.wet[k]? = some p := by rw [List.getElem?_eq_getElem hlt1, hpe]
      rw [hpe] at hcc hbv
      obtain ⟨pa, pb, pc⟩ := (unhide hp) k p hpk
      have ag := unhide q5
      have c0 := (World.cell?_of_block (a := ⟨b, off + k * 2 + 0, none⟩) (ag b hb1' hb2')).trans (hcc 0 (by simp))
      have c1' := (World.cell?_of_block (a := ⟨b, off + k * 2 + 1, none⟩) (ag b hb1' hb2')).trans (hcc 1 (by simp))
      obtain ⟨A2, c2, rfl, x1, x2, x3⟩ := hbv
      obtain ⟨b2', o2, rfl, hb2ge, hb2lt, hcell2⟩ := x3 (by omega)
      simp only [List.getElem_cons_zero, List.getElem_cons_succ, Nat.add_zero] at c0 c1'
      rw [pc] at c1' x1
      have lr := (unhide q3).lt
      have h2r := unhide q6
      have hcc2 : ∀ i (hi : i < p.b.length), wr.cell? ⟨b2', o2 + i, none⟩ = some (u8v p.b[i]) := fun i hi => (World.cell?_of_block (a := ⟨b2', o2 + i, none⟩) (ag b2' hb2ge hb2lt)).trans (hcell2 i hi)
      have nb2 : b2' ≠ gD := by omega
      have hlen := crAt_length d.dry d.wet ms k (unhide hp)
      have b2r : b2' < wr.heap.size := by omega
      clear hcc hcs x3 hcell2 ag
      replace hcc2 := hide hcc2; replace hpk := hide hpk; replace hpe := hide hpe; replace pc := hide pc; replace hlen := hide hlen
      go_upto_region 8 with fail
      have T1 := (unhide q1).alloc (.cells #[.int .i64 p.at_, .slice (some ⟨b2', o2, none⟩) 32 c2] 41)
      have T2 := (unhide q2).alloc (.cells #[.int .i64 p.at_, .slice (some ⟨b2', o2, none⟩) 32 c2] 41)
      have T3 := (unhide q3).alloc (.cells #[.int .i64 p.at_, .slice (some ⟨b2', o2, none⟩) 32 c2] 41)
      have T4 : Blk (wr.alloc (.cells #[.int .i64 p.at_, .slice (some ⟨b2', o2, none⟩) 32 c2] 41)) wr.heap.size 41 #[.int .i64 p.at_, .slice (some ⟨b2', o2, none⟩) 32 c2] := Blk.new rfl
      have T5 : Agree B H2 wa (wr.alloc (.cells #[.int .i64 p.at_, .slice (some ⟨b2', o2, none⟩) 32 c2] 41)) := fun k h1 h2 => (Below.heap_alloc wr _ k (by omega)).trans (unhide q5 k h1 h2)
      have T6 : H2 ≤ (wr.alloc (.cells #[.int .i64 p.at_, .slice (some ⟨b2', o2, none⟩) 32 c2] 41)).heap.size := by simp; omega
      have T7 : Below w.heap.size w (wr.alloc (.cells #[.int .i64 p.at_, .slice (some ⟨b2', o2, none⟩) 32 c2] 41)) := bl_alloc (unhide q4) _
      have hcc3 : ∀ i (hi : i < p.b.length), (wr.alloc (.cells #[.int .i64 p.at_, .slice (some ⟨b2', o2, none⟩) 32 c2] 41)).cell? ⟨b2', o2 + i, none⟩ = some (u8v p.b[i]) := fun i hi => (World.cell?_of_block (a := ⟨b2', o2 + i, none⟩) (Below.heap_alloc wr _ b2' b2r)).trans (unhide hcc2 i hi)
      have ngp : wr.heap.size ≠ gD := by omega
      generalize wr.alloc (.cells #[.int .i64 p.at_, .slice (some ⟨b2', o2, none⟩) 32 c2] 41) = wi at *
      generalize wr.heap.size = gp at *
      replace T1 := hide T1; replace T2 := hide T2; replace T3 := hide T3; replace T4 := hide T4; replace T5 := hide T5; replace T6 := hide T6; replace T7 := hide T7; replace hcc3 := hide hcc3
      clear q1 q2 q3 q4 q5 q6 g0 g1 c0 c1' hcc2 lr h2r l1 l2 b2r hb1' hb2' hb2ge hb2lt
      have hlen' := unhide hlen
      have pc' := unhide pc
      obtain ⟨a32, ha32⟩ : ∃ a32, a32 = p.at_.toNat * 32 := ⟨_, rfl⟩
      have ha33 : a32 + 32 ≤ d.dry.length := by omega
      have hL0 : a32 + 32 ≤ ((crAt d.dry d.wet ms k).map u8v ++ S).length := by simp [hlen']; omega
      have hpl : (p.b.map u8v).length = 32 := by simp [pc']
      have i1 : IntKind.i64.wrap (32 * p.at_) = (a32 : Int) := (IntWalk.i64_in _ (by omega)).trans (by omega)
      clear hlen' pc'
      replace hL0 := hide hL0; replace hpl := hide hpl; replace ha32 := hide ha32
      by_cases hms : k < ms.length
      · obtain ⟨A3', c3', e3, _, _, hm3⟩ := unhide hm
        injection e3 with e3 _ e5
        subst e5
        obtain ⟨b3, o3, e4, _, hb3lt, hcell3⟩ := hm3 (by omega)
        rw [e4] at e3
        subst e3
        have cm' := ((unhide T7).cell (p := ⟨b3, o3 + k, none⟩) hb3lt).trans (hcell3 k hms)
        obtain ⟨m, hme⟩ : ∃ m, ms[k] = m := ⟨_, rfl⟩
        have hmk : ms[k]? = some m := by rw [List.getElem?_eq_getElem hms, hme]
        rw [hme] at cm'
        unfold u8v at cm'
        have hfin : keepG ((crAt d.dry d.wet ms k).map u8v ++ S) a32 (p.b.map u8v) m 8 = (crAt d.dry d.wet ms (k + 1)).map u8v ++ S := by
          have h0 := unhide hL0
          rw [keepG_app _ _ _ _ _ _ (by simp [unhide hlen]; omega) (unhide hpl) (by omega), ← keepG_map, crAt_succ (unhide hpk) hmk, unhide ha32]
        generalize (crAt d.dry d.wet ms k).map u8v ++ S = L0 at *
        have nb3 : b3 ≠ gD := by omega
        replace hmk := hide hmk; replace hme := hide hme; replace hfin := hide hfin
        clear hm3 hcell3
        go_loopw [23] (fun i wy => ∃ j : Nat, j ≤ 8 ∧ i = .int .i64 j ∧ Hid (Blk wy gD 5 (keepG L0 a32 (p.b.map u8v) m j).toArray) ∧ Hid (Only gD wi wy)) (fun i _ => 8 - (intOf i).toNat)
        case atStart => exact ⟨0, by omega, rfl, T1, hide (Only.refl _ _)⟩
        case round =>
          obtain ⟨j, hj, rfl, hb, ho⟩ := hrel
          generalize wr = wy at *
          by_cases hj8 : j < 8
          · have O := unhide ho
            have s0 := (O.cell (p := ⟨w.heap.size, 0, none⟩) nD0).trans ((unhide T2).cell 0)
            have s1 := (O.cell (p := ⟨gp, 0, none⟩) ngp).trans ((unhide T4).cell 0)
            have s2 := (O.cell (p := ⟨gp, 1, none⟩) ngp).trans ((unhide T4).cell 1)
            have s3 := (O.cell (p := ⟨b3, o3 + k, none⟩) nb3).trans cm'
            simp at s0 s1 s2
            have l0 : w.heap.size < wy.heap.size := by rw [O.size]; exact (unhide T2).lt
            have l1 : gp < wy.heap.size := by rw [O.size]; exact (unhide T4).lt
            have lD := (unhide hb).lt
            have hl := keepG_length L0 a32 (p.b.map u8v) m j (unhide hL0) (unhide hpl) (by omega)
            obtain ⟨j4, hj4⟩ : ∃ j4, j4 = j * 4 := ⟨_, rfl⟩
            have x1 : (((p.b.map u8v).drop (j * 4)).take 4).length = 4 * 1 := by rw [List.length_take, List.length_drop, unhide hpl]; omega
            have x2 : a32 + j4 + (((p.b.map u8v).drop (j * 4)).take 4).length ≤ (keepG L0 a32 (p.b.map u8v) m j).length := by
              have := unhide hL0
              rw [x1, hl]; omega
            have x3 : 4 = Nat.min 4 (d.dry.length - (a32 + j4)) := by show 4 = min _ _; omega
            have x4 : ∀ v ∈ ((p.b.map u8v).drop (j * 4)).take 4, v.oneCell' = true := fun v hv => u8s_one p.b v (List.mem_of_mem_drop (List.mem_of_mem_take hv))
            have x5 : SrcOk wy (some ⟨b2', o2 + j4, none⟩) (((p.b.map u8v).drop (j * 4)).take 4).length (((p.b.map u8v).drop (j * 4)).take 4) := by
              intro _
              refine ⟨_, rfl, fun i u hu => ?_⟩
              rw [List.getElem?_take] at hu
              split at hu
              · rw [List.getElem?_drop, List.getElem?_map, Option.map_eq_some_iff] at hu
                obtain ⟨x, hx, rfl⟩ := hu
                obtain ⟨hi, rfl⟩ := List.getElem?_eq_some_iff.1 hx
                have h1 := (O.cell (p := ⟨b2', o2 + (j * 4 + i), none⟩) nb2).trans (unhide hcc3 (j * 4 + i) hi)
                rw [addk, hj4, Nat.add_assoc]
                exact h1
              · cases hu
            have hs1 := fun W => dslice_l gD d.dry.length c3 (a32 + j4) (by omega) (by omega) W
            rw [show ((a32 + j4 : Nat) : Int) = (a32 : Int) + (j4 : Int) by omega] at hs1
            have hs2 := fun W => dslice_lh b2' o2 32 c2 j4 (j4 + 4) (by omega) (by omega) (by omega) W
            rw [show ((j4 + 4 : Nat) : Int) = (j4 : Int) + 4 by omega, show j4 + 4 - j4 = 4 by omega] at hs2
            have i2 : IntKind.i64.wrap (4 * (j : Int)) = (j4 : Int) := (IntWalk.i64_in _ (by omega)).trans (by omega)
            have i3 : IntKind.i64.wrap ((a32 : Int) + (j4 : Int)) = (a32 : Int) + (j4 : Int) := IntWalk.i64_in _ (by omega)
            have i4 : IntKind.i64.wrap ((j4 : Int) + 4) = (j4 : Int) + 4 := IntWalk.i64_in _ (by omega)
            have i5 : IntKind.i64.wrap ((j : Int) + 1) = (j : Int) + 1 := IntWalk.i64_in _ (by omega)
            have i6 : (k : Int) < (ms.length : Int) := by omega
            have i7 : (0 : Int) ≤ (k : Int) := by omega
            replace x1 := hide x1; replace x2 := hide x2; replace x3 := hide x3; replace x4 := hide x4; replace x5 := hide x5; replace hl := hide hl; replace hj4 := hide hj4; replace O := hide O
            go_wp2_with fail
            · have x6 : bitOf m j = true := by rw [← bit_walk2]; assumption
              replace x6 := hide x6
              go_region_held3 (fun W => W.cell? ⟨w.heap.size, 0, none⟩ = some (.slice (some ⟨gD, 0, none⟩) d.dry.length c3) ∧ W.cell? ⟨gp, 0, none⟩ = some (.int .i64 p.at_) ∧ W.cell? ⟨gp, 1, none⟩ = some (.slice (some ⟨b2', o2, none⟩) 32 c2)) (first | exact ⟨by assumption, by assumption, by assumption⟩ | exact ⟨by go_simp, by go_simp, by go_simp⟩) (first
                | (refine step_copyN rfl (.tmp 48) (.tmp 56) 22 22 rfl 5 1 Try.underlying22 (by kernel_rfl) _ _ _ _ _ _ rfl rfl gD (a32 + j4) (keepG L0 a32 (p.b.map u8v) m j) 5 (Blk.drew (unhide hb)) (((p.b.map u8v).drop (j * 4)).take 4) 4 (unhide x3) (unhide x1) (fun _ => ⟨rfl, (show SrcOk wy.drew _ _ _ from unhide x5)⟩) (unhide x2) (unhide x4) ?_; intro w3 B3 O3
                   have r0 := O3.cell (p := ⟨w.heap.size, 0, none⟩) nD0
                   have r1 := O3.cell (p := ⟨gp, 0, none⟩) ngp
                   have r2 := O3.cell (p := ⟨gp, 1, none⟩) ngp))
              clear i1 i2 i3 i4 i5 hs1 hs2 s0 s1 s2 s3 r0 r1 r2
              go_wp2_with fail
              go_roundw
              case rel =>
                refine ⟨j + 1, by omega, by go_num, hide ?_, hide (Only.trans (unhide O) ⟨O3.os, O3.tape, O3.output, O3.size, O3.block⟩)⟩
                have B3' := unhide B3
                rw [unhide hj4] at B3'
                simp only [keepG]
                rw [if_pos (unhide x6)]
                exact B3'
              case measure => simp [intOf]; omega
            · have x6 : bitOf m j = false := by rw [← bit_walk2]; assumption
              go_roundw
              case rel =>
                refine ⟨j + 1, by omega, by go_num, hide ?_, ho⟩
                simp only [keepG]
                rw [if_neg (by simp [x6])]
                exact unhide hb
              case measure => simp [intOf]; omega
          · obtain rfl : j = 8 := by omega
            have O := unhide ho
            have F1 := unhide hb
            rw [unhide hfin] at F1
            have F2 := (unhide T2).only O nD0
            have F3 := (unhide T3).only O nD1
            have F5 : Agree B H2 wa wy := fun x h1 h2 => (O.block x (by omega)).trans (unhide T5 x h1 h2)
            have F6 : H2 ≤ wy.heap.size := by rw [O.size]; exact unhide T6
            have F7 := (unhide T7).trans (O.below wD)
            replace F1 := hide F1; replace F2 := hide F2; replace F3 := hide F3; replace F5 := hide F5; replace F6 := hide F6; replace F7 := hide F7
            clear O hb ho
            go_wp2_with fail
            go_roundw
            case rel => exact ⟨k + 1, by omega, by go_num, F1, F2, F3, F5, F6, F7⟩
            case measure => simp [intOf]; omega
      · have hpast := crAt_past (dry := d.dry) (wet := d.wet) (ms := ms) (k := k) (by omega)
        rw [← hpast] at T1
        replace hpast := hide hpast
        have i6 : ¬ (k : Int) < (ms.length : Int) := by omega
        go_loopw [23] (fun i wy => ∃ j : Nat, j ≤ 8 ∧ i = .int .i64 j ∧ wi = wy) (fun i _ => 8 - (intOf i).toNat)
        case atStart => exact ⟨0, by omega, rfl, rfl⟩
        case round =>
          obtain ⟨j, hj, rfl, rfl⟩ := hrel
          by_cases hj8 : j < 8
          · go_wp2_with fail
            go_roundw
            case rel => exact ⟨j + 1, by omega, by go_num, trivial⟩
            case measure => simp [intOf]; omega
          · obtain rfl : j = 8 := by omega
            go_wp2_with fail
            go_roundw
            case rel => exact ⟨k + 1, by omega, by go_num, T1, T2, T3, T5, T6, T7⟩
            case measure => simp [intOf]; omega
    · obtain rfl : k = n := by omega
      have g2 := (unhide q2).cell 2
      have f0 := (unhide q2).frozen 0; have f1 := (unhide q2).frozen 1; have f2 := (unhide q2).frozen 2
      have r0 := (unhide q3).cell 0; have r1 := (unhide q3).cell 1; have r2 := (unhide q3).cell 2
      have e0 := (unhide q3).frozen 0; have e1 := (unhide q3).frozen 1; have e2 := (unhide q3).frozen 2
      simp at g2 r0 r1 r2
      have l3 := (unhide q3).lt
      go_wp2_with fail
      have Kr2 := ((unhide q3).far (p := ⟨w.heap.size, 1, none⟩) (by simp) (.slice none 0 0)).far (p := ⟨w.heap.size, 2, none⟩) (by simp) (.int .i64 (-1))
      refine ret_disk2 rfl (w.heap.size + 1) #[.slice (some ⟨gD, 0, none⟩) d.dry.length c3, .slice none 0 0, .int .i64 (-1)] rfl (.int .i64 0) rfl rfl Kr2.set3 rfl ⟨_, rfl, ?_, ?_⟩
      · rw [unhide hcr]
        have G := (((((unhide q1).far (p := ⟨w.heap.size, 1, none⟩) (Ne.symm nD0) (.slice none 0 0)).far (p := ⟨w.heap.size, 2, none⟩) (Ne.symm nD0) (.int .i64 (-1))).far (p := ⟨w.heap.size + 1, 0, none⟩) (Ne.symm nD1) (.slice (some ⟨gD, 0, none⟩) d.dry.length c3)).far (p := ⟨w.heap.size + 1, 1, none⟩) (Ne.symm nD1) (.slice none 0 0)).far (p := ⟨w.heap.size + 1, 2, none⟩) (Ne.symm nD1) (.int .i64 (-1))
        have hlen := crAt_length d.dry d.wet ms k (unhide hp)
        refine ⟨_, _, rfl, ⟨_, c3, by rw [hlen], by simp only [hlen]; exact hncD, hcap, fun _ => ⟨gD, 0, rfl, wD, G.lt, fun i hi => ?_⟩⟩, ⟨none, 0, rfl, by simp, by omega, fun h0 => by simp at h0, fun b off e => by cases e⟩⟩
        rw [Nat.zero_add, G.cell]
        simp only [List.getElem?_toArray]
        rw [List.getElem?_append_left (by simpa using hi), List.getElem?_map, List.getElem?_eq_getElem hi]
        rfl
      · exact (((((unhide q4).setCell (Nat.le_refl _) _).setCell (Nat.le_refl _) _).setCell (by simp) _).setCell (by simp) _).setCell (by simp) _

theorem refcrash_any (lo : Nat) (v mv : Value) (d : Dk) (ms : List UInt8) (w : World) (h : Dsk lo w.heap.size w v d) (hm : Bs lo w.heap.size w mv ms) (hL : d.dry.length ≤ 1000000) (hW : d.wet.length ≤ 1000) :
    Calls Try.prog 28 #[v, mv] w fun e w' => ∃ v' E, e = .returned (.tuple #[v', .int .i64 E]) ∧ Dsk w.heap.size w'.heap.size w' v' (crD d ms).1 ∧ E = (crD d ms).2 ∧ Below w.heap.size w w' := by
  cases hq : okD d
  · refine (refcrash_bad lo v d mv w h hq).mono ?_
    rintro e w' ⟨rfl, hb⟩
    have : crD d ms = (⟨[], [], 0⟩, 1) := by simp [crD, hq]
    rw [this]
    exact ⟨_, _, rfl, noDk_dsk _ _ _, rfl, hb⟩
  · have hm' := hm
    obtain ⟨A, c, rfl, _⟩ := hm'
    refine (refcrash_good lo v d A c ms w h hm hq hL hW).mono ?_
    rintro e w' ⟨v', rfl, hx, hb⟩
    exact ⟨_, _, rfl, hx, by simp [crD, hq], hb⟩
end Go.Proofs.Ytcgfcdbchcehmaa
