import Derived.Test.YtommlgdolahfbaaDoorRN
import Derived.Test.YtommlgdolahfbaaDoorRG
import Derived.Test.YtommlgdolahfbaaDoorRE
import Derived.Test.YtommlgdolahfbaaDoorR43
namespace Go.Proofs.YtommlgdolahfbaaDoor
set_option maxRecDepth 100000
open Go.RowKit

theorem refOctets_good (r : Rt) (h : rOk r = true) (hT : OkT r) (w : World) :
    Calls Tryd.prog 12 #[(.agg #[.int .u64 (r.gen : Nat), .int .i64 r.at_, .int .i64 r.len, .int .i64 r.long, .int .u32 (r.sum : Nat), .int .u64 (r.next : Nat)])] w fun e w' => ∃ A c, e = .returned (.tuple #[.slice A 32 c, .int .i64 0]) ∧ Bs w.heap.size w'.heap.size w' (.slice A 32 c) (octs r) ∧ Below w.heap.size w w' := by
  obtain ⟨a1, a2, a3, a4, a5, a6, a7, a8⟩ := rOk_iff.1 h
  obtain ⟨g, a, l, n, s, x⟩ := r
  simp only [] at a1 a2 a3 a4 a5 a6 a7 a8
  obtain ⟨a, rfl⟩ := Int.eq_ofNat_of_zero_le (show 0 ≤ a by omega)
  obtain ⟨l, rfl⟩ := Int.eq_ofNat_of_zero_le (show 0 ≤ l by omega)
  obtain ⟨n, rfl⟩ := Int.eq_ofNat_of_zero_le (show 0 ≤ n by omega)
  exact refLine g a l n s x h hT w
theorem refOctets_bad (r : Rt) (h : rOk r = false) (w : World) :
    Calls Tryd.prog 12 #[(.agg #[.int .u64 (r.gen : Nat), .int .i64 r.at_, .int .i64 r.len, .int .i64 r.long, .int .u32 (r.sum : Nat), .int .u64 (r.next : Nat)])] w fun e w' => e = .returned (.tuple #[.slice none 0 0, .int .i64 1]) ∧ Below w.heap.size w w' := by
  have hC := fun W => refCheck_any r W
  rw [h, show badE false = 1 from rfl] at hC
  replace hC := hide hC
  clear h
  go_enter Tryd.func12, Tryd.ntmps12
  go_wp2_with (first
    | (go_at_call 22; refine (unhide hC _).mono ?_; rintro e w1 ⟨rfl, b1⟩; have B1 := bl_call (bl_alloc (Below.refl w.heap.size w) (.cells #[.int .u64 (r.gen : Nat), .int .i64 r.at_, .int .i64 r.len, .int .i64 r.long, .int .u32 (r.sum : Nat), .int .u64 (r.next : Nat)] 27)) b1)
    | fail)
  go_ret2
  exact ⟨rfl, B1⟩
theorem dslice_h (g o n c j : Nat) (hj : j ≤ c) (hc : c ≠ 0) (W : World) :
    (Instr.slice 28 (.slice (some ⟨g, o, none⟩) n c) none (some (.int .i64 (j : Int))) none).run Tryd.prog W = .ok (.slice (some ⟨g, o, none⟩) j c) W := by
  rw [run_slice_h (P := Tryd.prog) W 28 (some ⟨g, o, none⟩) n c elem22 .i64 j (by omega) (by omega), size5e]
  simp only [Result.andThen, sliced, Int.toNat_natCast]
  rw [if_neg hc]
  simp only [Option.map_some, Nat.mul_one, addk, Nat.add_zero, Nat.sub_zero]
/-! ### what is told in a sector, and what parts of it tell -/
def tl (b : List UInt8) (n : Nat) : List UInt8 := (List.range n).map fun i => b.getD (place i) 0
theorem tl_len (b : List UInt8) (n : Nat) : (tl b n).length = n := by simp [tl]
theorem tl_get (b : List UInt8) {n i : Nat} (h : i < n) : (tl b n)[i]? = some (b.getD (place i) 0) := by simp [tl, h]
theorem tl_three (b : List UInt8) (k : Nat) : tl b (3 * (k + 1)) = tl b (3 * k) ++ [b.getD (4 * k + 1) 0, b.getD (4 * k + 2) 0, b.getD (4 * k + 3) 0] := by
  have e : 3 * (k + 1) = 3 * k + 1 + 1 + 1 := by omega
  have p0 : place (3 * k) = 4 * k + 1 := by unfold place; omega
  have p1 : place (3 * k + 1) = 4 * k + 2 := by unfold place; omega
  have p2 : place (3 * k + 1 + 1) = 4 * k + 3 := by unfold place; omega
  rw [e]
  unfold tl
  rw [List.range_succ, List.range_succ, List.range_succ]
  simp [p0, p1, p2]
theorem leN_snoc (l : List UInt8) (x : UInt8) : leN (l ++ [x]) = leN l + x.toNat * 256 ^ l.length := by
  induction l with
  | nil => simp [leN]
  | cons y l ih =>
    rw [List.cons_append, leN, leN, ih, List.length_cons, Nat.pow_succ, Nat.mul_add, Nat.mul_left_comm 256 x.toNat, Nat.mul_comm 256 (256 ^ l.length), Nat.add_assoc]
/-- The octets of a number, of those that are told. -/
def pt (b : List UInt8) (k j : Nat) : List UInt8 := (List.range j).map fun x => b.getD (place (off k + x)) 0
theorem pt_len (b : List UInt8) (k j : Nat) : (pt b k j).length = j := by simp [pt]
theorem pt_num (b : List UInt8) (k j : Nat) : leN (pt b k j) = rdN b k j := by
  induction j with
  | zero => rfl
  | succ j ih =>
    have : pt b k (j + 1) = pt b k j ++ [b.getD (place (off k + j)) 0] := by simp [pt, List.range_succ]
    rw [this, leN_snoc, pt_len, ih, rdN]
theorem pt_get (b : List UInt8) {k j i : Nat} (_h : i < j) (h' : i < (pt b k j).length) : (pt b k j)[i] = b.getD (place (off k + i)) 0 := by simp [pt]
set_option maxHeartbeats 1000000 in
theorem refOf_len (v : Value) (lo hi : Nat) (b : List UInt8) (w : World) (h : Bs lo hi w v b) (hb : b.length ≠ 32) :
    Calls Tryd.prog 14 #[v] w fun e w' => e = .returned (.tuple #[(.agg #[.int .u64 (noRt.gen : Nat), .int .i64 noRt.at_, .int .i64 noRt.len, .int .i64 noRt.long, .int .u32 (noRt.sum : Nat), .int .u64 (noRt.next : Nat)]), .int .i64 2]) ∧ Below w.heap.size w w' := by
  obtain ⟨A, c, rfl, h1, h2, h3⟩ := h
  have hn : (b.length : Int) ≠ 32 := by omega
  clear h3
  generalize b.length = n at *
  go_enter Tryd.func14, Tryd.ntmps14
  go_wp2
  exact ret_r2 rfl w.heap.size zR rfl _ rfl rfl (Blk.new rfl) rfl ⟨rfl, bl_alloc (Below.refl _ _) _⟩
set_option maxHeartbeats 8000000 in
theorem refOf_main (v : Value) (lo : Nat) (b : List UInt8) (w : World) (h : Bs lo w.heap.size w v b) (hb : b.length = 32) :
    Calls Tryd.prog 14 #[v] w fun e w' => e = .returned (.tuple #[(.agg #[.int .u64 ((ofR b).gen : Nat), .int .i64 (ofR b).at_, .int .i64 (ofR b).len, .int .i64 (ofR b).long, .int .u32 ((ofR b).sum : Nat), .int .u64 ((ofR b).next : Nat)]), .int .i64 (ofE b)]) ∧ Below w.heap.size w w' := by
  obtain ⟨i0, hi0, hz0, hz1, hz2⟩ := info_parts info5
  have hO0 : rOk (rdR b) = false → ∀ W, Below w.heap.size w W → _ := fun hk W _ => refOctets_bad (rdR b) hk W
  have hO1 : rOk (rdR b) = true → ∀ W, Below w.heap.size w W → _ := fun hk W _ => refOctets_good (rdR b) hk (rdR_ok b) W
  have hcb := fun W (hB : Below w.heap.size w W) => Bs.convert (h.grow hB)
  have hst : ((strU (octs (rdR b))).toList == (strU b).toList) = decide (octs (rdR b) = b) := by
    have e1 := strU_toList (octs (rdR b))
    have e2 := strU_toList b
    rw [e1, e2, Bool.eq_iff_iff]
    simp
  have hres : rOk (rdR b) = true → octs (rdR b) = b → ofR b = rdR b ∧ ofE b = 0 := fun k1 k2 => by
    have hB : ofB b = true := ofB_iff.2 ⟨k1, k2⟩
    exact ⟨by unfold ofR; rw [hB]; rfl, by unfold ofE; rw [hB]; rfl⟩
  have hrs : ¬ (rOk (rdR b) = true ∧ octs (rdR b) = b) → ofR b = noRt ∧ ofE b = 2 := fun k => by
    have hB : ¬ ofB b = true := fun hB => k (ofB_iff.1 hB)
    exact ⟨by unfold ofR; rw [if_neg hB], by unfold ofE; rw [if_neg hB]⟩
  have hrd : (#[.int .u64 ((rdR b).gen : Nat), .int .i64 (rdR b).at_, .int .i64 (rdR b).len, .int .i64 (rdR b).long, .int .u32 ((rdR b).sum : Nat), .int .u64 ((rdR b).next : Nat)] : Array Value) = #[.int .u64 (rdN b 0 6 : Nat), .int .i64 (rdN b 1 2 : Nat), .int .i64 (rdN b 2 2 : Nat), .int .i64 (rdN b 3 3 : Nat), .int .u32 (rdN b 4 4 : Nat), .int .u64 (rdN b 5 6 : Nat)] := rfl
  have l0 : rdN b 0 6 < 281474976710656 := rdN_lt b 0 6
  have l1 : rdN b 1 2 < 65536 := rdN_lt b 1 2
  have l2 : rdN b 2 2 < 65536 := rdN_lt b 2 2
  have l3 : rdN b 3 3 < 16777216 := rdN_lt b 3 3
  have l4 : rdN b 4 4 < 4294967296 := rdN_lt b 4 4
  have l5 : rdN b 5 6 < 281474976710656 := rdN_lt b 5 6
  obtain ⟨A, c, rfl, h1, h2, h3⟩ := h
  obtain ⟨bb, o, rfl, hb1, hb2, hc⟩ := h3 (by omega)
  have hcell : ∀ W p, Below w.heap.size w W → p < 32 → W.cell? ⟨bb, o + p, none⟩ = some (.int .u8 ((b.getD p 0).toNat : Int)) := fun W p hB hp => by
    have e := hc p (by omega)
    unfold u8v at e
    rw [(bcell hB).1 _ _ (by omega), e, List.getD_eq_getElem?_getD, List.getElem?_eq_getElem (by omega)]
    rfl
  rw [hb] at h1 hcb ⊢
  clear h3 hc
  have K0 : Blk (w.alloc (.cells zR 27)) w.heap.size 27 zR := Blk.new rfl
  have hBw : Below w.heap.size w (w.alloc (.cells zR 27)) := bl_alloc (Below.refl _ _) _
  obtain ⟨w0, hw0⟩ : ∃ w0, w0 = w.alloc (.cells zR 27) := ⟨_, rfl⟩
  have hsz0 : w0.heap.size = w.heap.size + 1 := by rw [hw0]; simp
  rw [← hw0] at K0 hBw
  have o0 : w0.ownsRow w0.heap.size 5 1 (.slice none 0 0) (3 * 0) ((tl b (3 * 0)).map u8v) := World.ownsRow_nil _ _ _ _
  have b0 : Below w0.heap.size w0 w0 := Below.refl _ _
  have lbb : bb < w0.heap.size := by omega
  obtain ⟨q, hq9⟩ : ∃ q, q = rdR b := ⟨_, rfl⟩
  rw [← hq9] at hO0 hO1 hrd hst hres hrs
  clear hb
  replace hO0 := hide hO0; replace hO1 := hide hO1; replace hcell := hide hcell; replace K0 := hide K0; replace hBw := hide hBw; replace o0 := hide o0; replace b0 := hide b0; replace hrd := hide hrd; replace hq9 := hide hq9; replace hcb := hide hcb; replace hst := hide hst; replace hres := hide hres; replace hrs := hide hrs
  replace h1 := hide h1; replace h2 := hide h2; replace hb2 := hide hb2
  replace l0 := hide l0
  replace l1 := hide l1
  replace l2 := hide l2
  replace l3 := hide l3
  replace l4 := hide l4
  replace l5 := hide l5
  go_enter Tryd.func14, Tryd.ntmps14
  have h1' := unhide h1
  go_wp2_with fail
  rw [← hw0]
  clear hw0
  go_loopw [4, 13] (fun v i wr => ∃ k m : Nat, k ≤ 8 ∧ i = .int .i64 k ∧ (∃ A c, v = .slice A m c) ∧ Hid (m = 3 * k) ∧ Hid (wr.ownsRow w0.heap.size 5 1 v m ((tl b m).map u8v)) ∧ Hid (Below w0.heap.size w0 wr)) (fun _ i _ => 8 - (intOf i).toNat)
  case atStart => exact ⟨0, 0, by omega, rfl, ⟨_, _, rfl⟩, rfl, o0, b0⟩
  case round =>
    obtain ⟨k, m, hk, rfl, ⟨A, d, rfl⟩, hm, ow, bw⟩ := hrel
    clear o0 b0
    by_cases hlt : k < 8
    · have k1 : (k : Int) < 8 := by omega
      have w1 : IntKind.i64.wrap (4 * (k : Int)) = 4 * (k : Int) := IntWalk.i64_in _ (by omega)
      have w11 : IntKind.i64.wrap (4 * (k : Int) + 1) = 4 * (k : Int) + 1 := IntWalk.i64_in _ (by omega)
      have y1 : (0 : Int) ≤ 4 * (k : Int) + 1 := by omega
      have p1 : 4 * (k : Int) + 1 < 32 := by omega
      have z1 : (4 * (k : Int) + 1).toNat = 4 * k + 1 := by omega
      have r1 : 4 * k + 1 < 32 := by omega
      have c1 := ((unhide bw).cell (p := ⟨bb, o + (4 * k + 1), none⟩) lbb).trans (unhide hcell w0 (4 * k + 1) (unhide hBw) r1)
      have w12 : IntKind.i64.wrap (4 * (k : Int) + 2) = 4 * (k : Int) + 2 := IntWalk.i64_in _ (by omega)
      have y2 : (0 : Int) ≤ 4 * (k : Int) + 2 := by omega
      have p2 : 4 * (k : Int) + 2 < 32 := by omega
      have z2 : (4 * (k : Int) + 2).toNat = 4 * k + 2 := by omega
      have r2 : 4 * k + 2 < 32 := by omega
      have c2 := ((unhide bw).cell (p := ⟨bb, o + (4 * k + 2), none⟩) lbb).trans (unhide hcell w0 (4 * k + 2) (unhide hBw) r2)
      have w13 : IntKind.i64.wrap (4 * (k : Int) + 3) = 4 * (k : Int) + 3 := IntWalk.i64_in _ (by omega)
      have y3 : (0 : Int) ≤ 4 * (k : Int) + 3 := by omega
      have p3 : 4 * (k : Int) + 3 < 32 := by omega
      have z3 : (4 * (k : Int) + 3).toNat = 4 * k + 3 := by omega
      have r3 : 4 * k + 3 < 32 := by omega
      have c3 := ((unhide bw).cell (p := ⟨bb, o + (4 * k + 3), none⟩) lbb).trans (unhide hcell w0 (4 * k + 3) (unhide hBw) r3)
      have hs := tl_three b k
      have hm4 : m + 3 = 3 * (k + 1) := by have := unhide hm; omega
      have b3 : m + 3 ≤ maxLen := by simp only [maxLen]; have := unhide hm; omega
      have b4 : (m + 3) * 1 ≤ 140737488355328 := by have := unhide hm; omega
      rw [← hm4, ← unhide hm] at hs
      replace hm4 := hide hm4
      have hsz := (unhide bw).size
      generalize b.getD (4 * k + 1) 0 = t1 at *
      generalize b.getD (4 * k + 2) 0 = t2 at *
      generalize b.getD (4 * k + 3) 0 = t3 at *
      have ho := u8s_one [t1, t2, t3]
      have hsc := fun W => list_src W [t1, t2, t3]
      have lt : bb < wr.heap.size := Nat.lt_of_lt_of_le lbb hsz
      replace hs := hide hs; replace b3 := hide b3; replace b4 := hide b4; replace hsz := hide hsz; replace ho := hide ho; replace hsc := hide hsc
      go_upto_region 7 with fail
      go_region_held3 (fun W => W.cell? ⟨bb, o + (4 * k + 1), none⟩ = some (.int .u8 (t1.toNat : Int)) ∧ W.cell? ⟨bb, o + (4 * k + 2), none⟩ = some (.int .u8 (t2.toNat : Int)) ∧ W.cell? ⟨bb, o + (4 * k + 3), none⟩ = some (.int .u8 (t3.toNat : Int))) (first | exact ⟨by with_reducible assumption, by with_reducible assumption, by with_reducible assumption⟩ | exact ⟨by go_simp, by go_simp, by go_simp⟩)
        (first
        | (refine step_app rfl (.tmp 16) (.tmp 35) 28 rfl w0.heap.size 5 i0 _ 1 1 Tryd.underlying28 hi0 hz0 hz1 hz2 rfl (Nat.succ_pos _) _ m ((tl b m).map u8v) rfl (World.ownsRow.alloc (own_drew (unhide ow)) (.cells #[.int .u8 (t1.toNat : Int), .int .u8 (t2.toNat : Int), .int .u8 (t3.toNat : Int)] 5)) _ 3 3 (([t1, t2, t3] : List UInt8).map u8v) rfl rfl (unhide hsc wr.drew) (unhide ho) (unhide b3) (unhide b4) (sz_alloc (w := wr.drew) (unhide hsz) _) ?_
           intro v4 w4 o4 hg4
           have hb4 : Below w0.heap.size w0 w4 := (Below.drew (unhide bw)).trans (bl_app (w := wr.drew) (unhide hsz) (own_drew (unhide ow)) hg4)
           rw [← List.map_append, ← unhide hs] at o4
           obtain ⟨A4, c4, rfl⟩ := ownsRow_form o4
           have f1 := (hb4.cell (p := ⟨bb, o + (4 * k + 1), none⟩) lbb).trans (((unhide bw).cell (p := ⟨bb, o + (4 * k + 1), none⟩) lbb).symm.trans c1)
           have f2 := (hb4.cell (p := ⟨bb, o + (4 * k + 2), none⟩) lbb).trans (((unhide bw).cell (p := ⟨bb, o + (4 * k + 2), none⟩) lbb).symm.trans c2)
           have f3 := (hb4.cell (p := ⟨bb, o + (4 * k + 3), none⟩) lbb).trans (((unhide bw).cell (p := ⟨bb, o + (4 * k + 3), none⟩) lbb).symm.trans c3)
           replace o4 := hide o4; replace hb4 := hide hb4
           clear hg4))
      go_wp2_with (fail)
      go_roundw
      case rel => exact ⟨k + 1, m + 3, by omega, by go_num, ⟨A4, c4, rfl⟩, hm4, o4, hb4⟩
      case measure => simp [intOf]; omega
    · obtain rfl : k = 8 := by omega
      obtain rfl : m = 24 := unhide hm
      obtain ⟨bt, ot, rfl, hbt, hdc, hct⟩ : ∃ bt ot, A = some ⟨bt, ot, none⟩ ∧ bt < wr.heap.size ∧ 24 ≤ d ∧ ∀ i, i < 24 → wr.cell? ⟨bt, ot + i, none⟩ = some (u8v (b.getD (place i) 0)) := by
        have o9 := unhide ow
        rw [show 24 = (tl b 24).length from (tl_len b 24).symm] at o9
        obtain ⟨A', c', e, e9, _, hc⟩ := Bs.of_own o9
        obtain ⟨b9, o9', e1, _, h2', h3'⟩ := hc (by rw [tl_len]; omega)
        rw [tl_len] at e e9
        injection e with e _ e8
        subst e e8
        refine ⟨b9, o9', e1, h2', e9, fun i hi => ?_⟩
        rw [h3' i (by rw [tl_len]; omega)]
        have q' := tl_get b (n := 24) (i := i) (by omega)
        rw [List.getElem?_eq_getElem (by rw [tl_len]; omega)] at q'
        injection q' with q'
        rw [q']
      have hB9 : Below w.heap.size w wr := (unhide hBw).trans ((unhide bw).mono (by omega))
      have K9 : Blk wr w.heap.size 27 zR := (unhide K0).below (unhide bw) (by omega)
      have hd9 : d ≤ 9223372036854775807 := by
        have o9 := unhide ow
        rcases o9.2 with ⟨e, _⟩ | ⟨g, cap, cur, e, _, _, _, hcm, _⟩
        · injection e with e _ _; cases e
        · injection e with _ _ e; subst e; simpa [maxLen] using hcm
      have hT0 : ∀ W, Below wr.heap.size wr W → Calls Tryd.prog 34 #[.slice (some ⟨bt, ot, none⟩) 6 d] W fun e w' => e = .returned (.int .u64 (rdN b 0 6 : Nat)) ∧ W = w' := fun W hW => by
        rw [← pt_num]
        refine take_any 0 wr.heap.size _ (pt b 0 6) W ⟨_, _, by rw [pt_len], by rw [pt_len]; omega, by omega, fun _ => ⟨bt, ot, rfl, Nat.zero_le _, hbt, fun i hi => ?_⟩⟩ (by rw [pt_len]; omega)
        rw [pt_len] at hi
        rw [pt_get b hi, (bcell hW).1 _ _ hbt]
        have q' := hct i (by omega)
        rw [show off 0 + i = i from Nat.zero_add i]
        exact q'
      have hT1 : ∀ W, Below wr.heap.size wr W → Calls Tryd.prog 34 #[.slice (some ⟨bt, ot + 6, none⟩) 2 (d - 6)] W fun e w' => e = .returned (.int .u64 (rdN b 1 2 : Nat)) ∧ W = w' := fun W hW => by
        rw [← pt_num]
        refine take_any 0 wr.heap.size _ (pt b 1 2) W ⟨_, _, by rw [pt_len], by rw [pt_len]; omega, by omega, fun _ => ⟨bt, ot + 6, rfl, Nat.zero_le _, hbt, fun i hi => ?_⟩⟩ (by rw [pt_len]; omega)
        rw [pt_len] at hi
        rw [pt_get b hi, (bcell hW).1 _ _ hbt, Nat.add_assoc]
        exact hct (6 + i) (by omega)
      have hT2 : ∀ W, Below wr.heap.size wr W → Calls Tryd.prog 34 #[.slice (some ⟨bt, ot + 8, none⟩) 2 (d - 8)] W fun e w' => e = .returned (.int .u64 (rdN b 2 2 : Nat)) ∧ W = w' := fun W hW => by
        rw [← pt_num]
        refine take_any 0 wr.heap.size _ (pt b 2 2) W ⟨_, _, by rw [pt_len], by rw [pt_len]; omega, by omega, fun _ => ⟨bt, ot + 8, rfl, Nat.zero_le _, hbt, fun i hi => ?_⟩⟩ (by rw [pt_len]; omega)
        rw [pt_len] at hi
        rw [pt_get b hi, (bcell hW).1 _ _ hbt, Nat.add_assoc]
        exact hct (8 + i) (by omega)
      have hT3 : ∀ W, Below wr.heap.size wr W → Calls Tryd.prog 34 #[.slice (some ⟨bt, ot + 10, none⟩) 3 (d - 10)] W fun e w' => e = .returned (.int .u64 (rdN b 3 3 : Nat)) ∧ W = w' := fun W hW => by
        rw [← pt_num]
        refine take_any 0 wr.heap.size _ (pt b 3 3) W ⟨_, _, by rw [pt_len], by rw [pt_len]; omega, by omega, fun _ => ⟨bt, ot + 10, rfl, Nat.zero_le _, hbt, fun i hi => ?_⟩⟩ (by rw [pt_len]; omega)
        rw [pt_len] at hi
        rw [pt_get b hi, (bcell hW).1 _ _ hbt, Nat.add_assoc]
        exact hct (10 + i) (by omega)
      have hT4 : ∀ W, Below wr.heap.size wr W → Calls Tryd.prog 34 #[.slice (some ⟨bt, ot + 13, none⟩) 4 (d - 13)] W fun e w' => e = .returned (.int .u64 (rdN b 4 4 : Nat)) ∧ W = w' := fun W hW => by
        rw [← pt_num]
        refine take_any 0 wr.heap.size _ (pt b 4 4) W ⟨_, _, by rw [pt_len], by rw [pt_len]; omega, by omega, fun _ => ⟨bt, ot + 13, rfl, Nat.zero_le _, hbt, fun i hi => ?_⟩⟩ (by rw [pt_len]; omega)
        rw [pt_len] at hi
        rw [pt_get b hi, (bcell hW).1 _ _ hbt, Nat.add_assoc]
        exact hct (13 + i) (by omega)
      have hT5 : ∀ W, Below wr.heap.size wr W → Calls Tryd.prog 34 #[.slice (some ⟨bt, ot + 17, none⟩) 6 (d - 17)] W fun e w' => e = .returned (.int .u64 (rdN b 5 6 : Nat)) ∧ W = w' := fun W hW => by
        rw [← pt_num]
        refine take_any 0 wr.heap.size _ (pt b 5 6) W ⟨_, _, by rw [pt_len], by rw [pt_len]; omega, by omega, fun _ => ⟨bt, ot + 17, rfl, Nat.zero_le _, hbt, fun i hi => ?_⟩⟩ (by rw [pt_len]; omega)
        rw [pt_len] at hi
        rw [pt_get b hi, (bcell hW).1 _ _ hbt, Nat.add_assoc]
        exact hct (17 + i) (by omega)
      have hsl0 : ∀ W, (Instr.slice 28 (.slice (some ⟨bt, ot, none⟩) 24 d) none (some (.int .i64 6)) none).run Tryd.prog W = .ok (.slice (some ⟨bt, ot, none⟩) 6 d) W := fun W => dslice_h bt ot 24 d 6 (by omega) (by omega) W
      have hsl1 : ∀ W, (Instr.slice 28 (.slice (some ⟨bt, ot, none⟩) 24 d) (some (.int .i64 6)) (some (.int .i64 8)) none).run Tryd.prog W = .ok (.slice (some ⟨bt, ot + 6, none⟩) 2 (d - 6)) W := fun W => dslice_lh bt ot 24 d 6 8 (by omega) (by omega) (by omega) W
      have hsl2 : ∀ W, (Instr.slice 28 (.slice (some ⟨bt, ot, none⟩) 24 d) (some (.int .i64 8)) (some (.int .i64 10)) none).run Tryd.prog W = .ok (.slice (some ⟨bt, ot + 8, none⟩) 2 (d - 8)) W := fun W => dslice_lh bt ot 24 d 8 10 (by omega) (by omega) (by omega) W
      have hsl3 : ∀ W, (Instr.slice 28 (.slice (some ⟨bt, ot, none⟩) 24 d) (some (.int .i64 10)) (some (.int .i64 13)) none).run Tryd.prog W = .ok (.slice (some ⟨bt, ot + 10, none⟩) 3 (d - 10)) W := fun W => dslice_lh bt ot 24 d 10 13 (by omega) (by omega) (by omega) W
      have hsl4 : ∀ W, (Instr.slice 28 (.slice (some ⟨bt, ot, none⟩) 24 d) (some (.int .i64 13)) (some (.int .i64 17)) none).run Tryd.prog W = .ok (.slice (some ⟨bt, ot + 13, none⟩) 4 (d - 13)) W := fun W => dslice_lh bt ot 24 d 13 17 (by omega) (by omega) (by omega) W
      have hsl5 : ∀ W, (Instr.slice 28 (.slice (some ⟨bt, ot, none⟩) 24 d) (some (.int .i64 17)) (some (.int .i64 23)) none).run Tryd.prog W = .ok (.slice (some ⟨bt, ot + 17, none⟩) 6 (d - 17)) W := fun W => dslice_lh bt ot 24 d 17 23 (by omega) (by omega) (by omega) W
      have m0 := unhide l0
      have m1 := unhide l1
      have m2 := unhide l2
      have m3 := unhide l3
      have m4 := unhide l4
      have m5 := unhide l5
      have cv2 : IntKind.i64.wrap (rdN b 1 2 : Nat) = (rdN b 1 2 : Nat) := IntWalk.i64_in _ (by omega)
      have cv3 : IntKind.i64.wrap (rdN b 2 2 : Nat) = (rdN b 2 2 : Nat) := IntWalk.i64_in _ (by omega)
      have cv4 : IntKind.i64.wrap (rdN b 3 3 : Nat) = (rdN b 3 3 : Nat) := IntWalk.i64_in _ (by omega)
      have cv5 : IntKind.u32.wrap (rdN b 4 4 : Nat) = (rdN b 4 4 : Nat) := by rw [IntKind.wrap_u32]; omega
      have d6 : 6 ≤ d := by omega
      have d8 : 8 ≤ d := by omega
      have d10 : 10 ≤ d := by omega
      have d13 : 13 ≤ d := by omega
      have d17 : 17 ≤ d := by omega
      have d23 : 23 ≤ d := by omega
      have x0 := K9.cell 0; have x1 := K9.cell 1; have x2 := K9.cell 2; have x3 := K9.cell 3; have x4 := K9.cell 4; have x5 := K9.cell 5
      simp at x0 x1 x2 x3 x4 x5
      have lw : w.heap.size < wr.heap.size := K9.lt
      generalize rdN b 0 6 = n0 at *
      clear m0 l0
      generalize rdN b 1 2 = n1 at *
      clear m1 l1
      generalize rdN b 2 2 = n2 at *
      clear m2 l2
      generalize rdN b 3 3 = n3 at *
      clear m3 l3
      generalize rdN b 4 4 = n4 at *
      clear m4 l4
      generalize rdN b 5 6 = n5 at *
      clear m5 l5
      have hA0 := hT0 wr.drew (Below.drew (Below.refl _ _))
      have hB0 := hT0 (wr.alloc (.cells #[.int .u64 0, .int .i64 0, .int .i64 0, .int .i64 0, .int .u32 0, .int .u64 0] 27)).drew (Below.drew (bl_alloc (Below.refl _ _) _))
      replace hA0 := hide hA0; replace hB0 := hide hB0
      clear hT0
      have hA1 := hT1 wr.drew (Below.drew (Below.refl _ _))
      have hB1 := hT1 (wr.alloc (.cells #[.int .u64 0, .int .i64 0, .int .i64 0, .int .i64 0, .int .u32 0, .int .u64 0] 27)).drew (Below.drew (bl_alloc (Below.refl _ _) _))
      replace hA1 := hide hA1; replace hB1 := hide hB1
      clear hT1
      have hA2 := hT2 wr.drew (Below.drew (Below.refl _ _))
      have hB2 := hT2 (wr.alloc (.cells #[.int .u64 0, .int .i64 0, .int .i64 0, .int .i64 0, .int .u32 0, .int .u64 0] 27)).drew (Below.drew (bl_alloc (Below.refl _ _) _))
      replace hA2 := hide hA2; replace hB2 := hide hB2
      clear hT2
      have hA3 := hT3 wr.drew (Below.drew (Below.refl _ _))
      have hB3 := hT3 (wr.alloc (.cells #[.int .u64 0, .int .i64 0, .int .i64 0, .int .i64 0, .int .u32 0, .int .u64 0] 27)).drew (Below.drew (bl_alloc (Below.refl _ _) _))
      replace hA3 := hide hA3; replace hB3 := hide hB3
      clear hT3
      have hA4 := hT4 wr.drew (Below.drew (Below.refl _ _))
      have hB4 := hT4 (wr.alloc (.cells #[.int .u64 0, .int .i64 0, .int .i64 0, .int .i64 0, .int .u32 0, .int .u64 0] 27)).drew (Below.drew (bl_alloc (Below.refl _ _) _))
      replace hA4 := hide hA4; replace hB4 := hide hB4
      clear hT4
      have hA5 := hT5 wr.drew (Below.drew (Below.refl _ _))
      have hB5 := hT5 (wr.alloc (.cells #[.int .u64 0, .int .i64 0, .int .i64 0, .int .i64 0, .int .u32 0, .int .u64 0] 27)).drew (Below.drew (bl_alloc (Below.refl _ _) _))
      replace hA5 := hide hA5; replace hB5 := hide hB5
      clear hT5
      have hq6 := unhide hrd
      replace hB9 := hide hB9; replace K9 := hide K9
      clear ow bw hct hbt hcell K0 hBw
      go_upto_region 9 with fail
      go_cut [6] (fun s6 wc => ∃ g, s6 = .pointer (some ⟨g, 0, none⟩) ∧ Hid (Gx w wc [(w.heap.size, 27, zR), (g, 27, #[.int .u64 (q.gen : Nat), .int .i64 q.at_, .int .i64 q.len, .int .i64 q.long, .int .u32 (q.sum : Nat), .int .u64 (q.next : Nat)])] [] []))
      case first =>
        go_region_held3 (fun _ => True) (trivial) (first
          | (go_at_call 34; with_reducible refine (unhide hA0).mono ?_; rintro e w4 ⟨rfl, rfl⟩)
          | (go_at_call 34; with_reducible refine (unhide hB0).mono ?_; rintro e w4 ⟨rfl, rfl⟩)
          | (go_at_call 34; with_reducible refine (unhide hA1).mono ?_; rintro e w4 ⟨rfl, rfl⟩)
          | (go_at_call 34; with_reducible refine (unhide hB1).mono ?_; rintro e w4 ⟨rfl, rfl⟩)
          | (go_at_call 34; with_reducible refine (unhide hA2).mono ?_; rintro e w4 ⟨rfl, rfl⟩)
          | (go_at_call 34; with_reducible refine (unhide hB2).mono ?_; rintro e w4 ⟨rfl, rfl⟩)
          | (go_at_call 34; with_reducible refine (unhide hA3).mono ?_; rintro e w4 ⟨rfl, rfl⟩)
          | (go_at_call 34; with_reducible refine (unhide hB3).mono ?_; rintro e w4 ⟨rfl, rfl⟩)
          | (go_at_call 34; with_reducible refine (unhide hA4).mono ?_; rintro e w4 ⟨rfl, rfl⟩)
          | (go_at_call 34; with_reducible refine (unhide hB4).mono ?_; rintro e w4 ⟨rfl, rfl⟩)
          | (go_at_call 34; with_reducible refine (unhide hA5).mono ?_; rintro e w4 ⟨rfl, rfl⟩)
          | (go_at_call 34; with_reducible refine (unhide hB5).mono ?_; rintro e w4 ⟨rfl, rfl⟩)
          | fail)
        all_goals
          go_wp2_with fail
          go_meet
          exact ⟨_, rfl, by rw [hq6]; exact hide (((Gx.addB (L := []) (Y := []) (Z := []) ⟨unhide hB9, fun _ h => (nomatch h), fun _ h => (nomatch h), fun _ h => (nomatch h)⟩ (unhide K9)).drew).newB _ rfl 27 _)⟩
      case rest =>
        obtain ⟨g, rfl, X⟩ := hcut
        clear hq6
        have c0 : wc.cell? ⟨g, 0, none⟩ = some (.int .u64 (q.gen : Nat)) := ((unhide X).get 1 rfl).cell 0
        have c1 : wc.cell? ⟨g, 1, none⟩ = some (.int .i64 q.at_) := ((unhide X).get 1 rfl).cell 1
        have c2 : wc.cell? ⟨g, 2, none⟩ = some (.int .i64 q.len) := ((unhide X).get 1 rfl).cell 2
        have c3 : wc.cell? ⟨g, 3, none⟩ = some (.int .i64 q.long) := ((unhide X).get 1 rfl).cell 3
        have c4 : wc.cell? ⟨g, 4, none⟩ = some (.int .u32 (q.sum : Nat)) := ((unhide X).get 1 rfl).cell 4
        have c5 : wc.cell? ⟨g, 5, none⟩ = some (.int .u64 (q.next : Nat)) := ((unhide X).get 1 rfl).cell 5
        have lg : g < wc.heap.size := ((unhide X).get 1 rfl).lt
        have lw9 : w.heap.size < wc.heap.size := ((unhide X).get 0 rfl).lt
        clear K9 hB9 x0 x1 x2 x3 x4 x5 lw
        cases hk : rOk q with
        | false =>
          have hO := unhide hO0 hk
          have hr9 := unhide hrs (by rw [hk]; simp)
          replace hO := hide hO; replace hr9 := hide hr9
          clear hk
          go_wp2_with (first
            | (go_at_call 12; refine (unhide hO _ (unhide X).bl).mono ?_; rintro e w5 ⟨rfl, b5⟩
               have X5 := (unhide X).call b5
               have ca0 : w5.cell? ⟨w.heap.size, 0, none⟩ = some (.int .u64 0) := (X5.get 0 rfl).cell 0
               have ca1 : w5.cell? ⟨w.heap.size, 1, none⟩ = some (.int .i64 0) := (X5.get 0 rfl).cell 1
               have ca2 : w5.cell? ⟨w.heap.size, 2, none⟩ = some (.int .i64 0) := (X5.get 0 rfl).cell 2
               have ca3 : w5.cell? ⟨w.heap.size, 3, none⟩ = some (.int .i64 0) := (X5.get 0 rfl).cell 3
               have ca4 : w5.cell? ⟨w.heap.size, 4, none⟩ = some (.int .u32 0) := (X5.get 0 rfl).cell 4
               have ca5 : w5.cell? ⟨w.heap.size, 5, none⟩ = some (.int .u64 0) := (X5.get 0 rfl).cell 5
               have fa0 : w5.frozen? ⟨w.heap.size, 0, none⟩ = false := (X5.get 0 rfl).frozen 0
               have fa1 : w5.frozen? ⟨w.heap.size, 1, none⟩ = false := (X5.get 0 rfl).frozen 1
               have fa2 : w5.frozen? ⟨w.heap.size, 2, none⟩ = false := (X5.get 0 rfl).frozen 2
               have fa3 : w5.frozen? ⟨w.heap.size, 3, none⟩ = false := (X5.get 0 rfl).frozen 3
               have fa4 : w5.frozen? ⟨w.heap.size, 4, none⟩ = false := (X5.get 0 rfl).frozen 4
               have fa5 : w5.frozen? ⟨w.heap.size, 5, none⟩ = false := (X5.get 0 rfl).frozen 5
               replace X5 := hide X5
               clear b5)
            | fail)
          exact ret_r2 rfl w.heap.size zR rfl (.int .i64 2) rfl rfl (Blk.set6 ((unhide X5).get 0 rfl) _ _ _ _ _ _) rfl ⟨by rw [(unhide hr9).1, (unhide hr9).2]; rfl, bl_set6 (unhide X5).bl (Nat.le_refl _) _ _ _ _ _ _⟩
        | true =>
          have hO := unhide hO1 hk
          replace hO := hide hO
          have hs9 := unhide hst
          cases hq : decide (octs q = b) with
          | false =>
            rw [hq] at hs9
            have hr9 := unhide hrs (fun hh => absurd hh.2 (of_decide_eq_false hq))
            replace hr9 := hide hr9
            clear hk hq
            go_wp2_with (first
              | (go_at_call 12; refine (unhide hO _ (unhide X).bl).mono ?_; rintro e w5 ⟨A5, c5, rfl, y5, b5⟩
                 have X5 := (unhide X).call b5
                 have cv1 := Bs.convert y5
                 have cv2' := unhide hcb w5 X5.bl
                 have ca0 : w5.cell? ⟨w.heap.size, 0, none⟩ = some (.int .u64 0) := (X5.get 0 rfl).cell 0
                 have ca1 : w5.cell? ⟨w.heap.size, 1, none⟩ = some (.int .i64 0) := (X5.get 0 rfl).cell 1
                 have ca2 : w5.cell? ⟨w.heap.size, 2, none⟩ = some (.int .i64 0) := (X5.get 0 rfl).cell 2
                 have ca3 : w5.cell? ⟨w.heap.size, 3, none⟩ = some (.int .i64 0) := (X5.get 0 rfl).cell 3
                 have ca4 : w5.cell? ⟨w.heap.size, 4, none⟩ = some (.int .u32 0) := (X5.get 0 rfl).cell 4
                 have ca5 : w5.cell? ⟨w.heap.size, 5, none⟩ = some (.int .u64 0) := (X5.get 0 rfl).cell 5
                 have fa0 : w5.frozen? ⟨w.heap.size, 0, none⟩ = false := (X5.get 0 rfl).frozen 0
                 have fa1 : w5.frozen? ⟨w.heap.size, 1, none⟩ = false := (X5.get 0 rfl).frozen 1
                 have fa2 : w5.frozen? ⟨w.heap.size, 2, none⟩ = false := (X5.get 0 rfl).frozen 2
                 have fa3 : w5.frozen? ⟨w.heap.size, 3, none⟩ = false := (X5.get 0 rfl).frozen 3
                 have fa4 : w5.frozen? ⟨w.heap.size, 4, none⟩ = false := (X5.get 0 rfl).frozen 4
                 have fa5 : w5.frozen? ⟨w.heap.size, 5, none⟩ = false := (X5.get 0 rfl).frozen 5
                 replace X5 := hide X5
                 clear b5 y5)
              | fail)
            exact ret_r2 rfl w.heap.size zR rfl (.int .i64 2) rfl rfl (Blk.set6 ((unhide X5).get 0 rfl) _ _ _ _ _ _) rfl ⟨by rw [(unhide hr9).1, (unhide hr9).2]; rfl, bl_set6 (unhide X5).bl (Nat.le_refl _) _ _ _ _ _ _⟩
          | true =>
            rw [hq] at hs9
            have hr9 := unhide hres hk (of_decide_eq_true hq)
            replace hr9 := hide hr9
            clear hk hq
            go_wp2_with (first
              | (go_at_call 12; refine (unhide hO _ (unhide X).bl).mono ?_; rintro e w5 ⟨A5, c5, rfl, y5, b5⟩
                 have X5 := (unhide X).call b5
                 have cv1 := Bs.convert y5
                 have cv2' := unhide hcb w5 X5.bl
                 have ca0 : w5.cell? ⟨w.heap.size, 0, none⟩ = some (.int .u64 0) := (X5.get 0 rfl).cell 0
                 have ca1 : w5.cell? ⟨w.heap.size, 1, none⟩ = some (.int .i64 0) := (X5.get 0 rfl).cell 1
                 have ca2 : w5.cell? ⟨w.heap.size, 2, none⟩ = some (.int .i64 0) := (X5.get 0 rfl).cell 2
                 have ca3 : w5.cell? ⟨w.heap.size, 3, none⟩ = some (.int .i64 0) := (X5.get 0 rfl).cell 3
                 have ca4 : w5.cell? ⟨w.heap.size, 4, none⟩ = some (.int .u32 0) := (X5.get 0 rfl).cell 4
                 have ca5 : w5.cell? ⟨w.heap.size, 5, none⟩ = some (.int .u64 0) := (X5.get 0 rfl).cell 5
                 have fa0 : w5.frozen? ⟨w.heap.size, 0, none⟩ = false := (X5.get 0 rfl).frozen 0
                 have fa1 : w5.frozen? ⟨w.heap.size, 1, none⟩ = false := (X5.get 0 rfl).frozen 1
                 have fa2 : w5.frozen? ⟨w.heap.size, 2, none⟩ = false := (X5.get 0 rfl).frozen 2
                 have fa3 : w5.frozen? ⟨w.heap.size, 3, none⟩ = false := (X5.get 0 rfl).frozen 3
                 have fa4 : w5.frozen? ⟨w.heap.size, 4, none⟩ = false := (X5.get 0 rfl).frozen 4
                 have fa5 : w5.frozen? ⟨w.heap.size, 5, none⟩ = false := (X5.get 0 rfl).frozen 5
                 have cg0 : w5.cell? ⟨g, 0, none⟩ = some (.int .u64 (q.gen : Nat)) := (X5.get 1 rfl).cell 0
                 have cg1 : w5.cell? ⟨g, 1, none⟩ = some (.int .i64 q.at_) := (X5.get 1 rfl).cell 1
                 have cg2 : w5.cell? ⟨g, 2, none⟩ = some (.int .i64 q.len) := (X5.get 1 rfl).cell 2
                 have cg3 : w5.cell? ⟨g, 3, none⟩ = some (.int .i64 q.long) := (X5.get 1 rfl).cell 3
                 have cg4 : w5.cell? ⟨g, 4, none⟩ = some (.int .u32 (q.sum : Nat)) := (X5.get 1 rfl).cell 4
                 have cg5 : w5.cell? ⟨g, 5, none⟩ = some (.int .u64 (q.next : Nat)) := (X5.get 1 rfl).cell 5
                 replace X5 := hide X5
                 clear b5 y5)
              | fail)
            exact ret_r2 rfl w.heap.size #[.int .u64 (q.gen : Nat), .int .i64 q.at_, .int .i64 q.len, .int .i64 q.long, .int .u32 (q.sum : Nat), .int .u64 (q.next : Nat)] rfl (.int .i64 0) rfl rfl (Blk.set6 ((unhide X5).get 0 rfl) _ _ _ _ _ _) rfl ⟨by rw [(unhide hr9).1, (unhide hr9).2], bl_set6 (unhide X5).bl (Nat.le_refl _) _ _ _ _ _ _⟩
theorem refOf_any (v : Value) (lo : Nat) (b : List UInt8) (w : World) (h : Bs lo w.heap.size w v b) :
    Calls Tryd.prog 14 #[v] w fun e w' => e = .returned (.tuple #[(.agg #[.int .u64 ((ofR b).gen : Nat), .int .i64 (ofR b).at_, .int .i64 (ofR b).len, .int .i64 (ofR b).long, .int .u32 ((ofR b).sum : Nat), .int .u64 ((ofR b).next : Nat)]), .int .i64 (ofE b)]) ∧ Below w.heap.size w w' := by
  by_cases hb : b.length = 32
  · exact refOf_main v lo b w h hb
  · have e0 : ofB b = false := by unfold ofB; rw [decide_eq_false hb]; rfl
    have e1 : ofR b = noRt := by unfold ofR; rw [e0]; rfl
    have e2 : ofE b = 2 := by unfold ofE; rw [e0]; rfl
    rw [e1, e2]
    exact refOf_len v lo w.heap.size b w h hb
end Go.Proofs.YtommlgdolahfbaaDoor
