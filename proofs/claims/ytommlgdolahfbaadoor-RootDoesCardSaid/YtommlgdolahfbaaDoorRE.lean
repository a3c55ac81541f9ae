import Derived.Test.YtommlgdolahfbaaDoorRD
namespace Go.Proofs.YtommlgdolahfbaaDoor
set_option maxRecDepth 100000
open Go.RowKit

/-! ### numbers, by places -/
def contN (f : Nat → Nat) : Array Value := ((List.range 7).map fun k => Value.int .u64 (f k : Nat)).toArray
theorem contN_get (f : Nat → Nat) {k : Nat} (h : k < 7) : (contN f)[k]? = some (.int .u64 (f k : Nat)) := by simp [contN, h]
theorem contN_size (f : Nat → Nat) : (contN f).size = 7 := by simp [contN]
theorem contN_val (f : Nat → Nat) : Value.agg (contN f) = numV f := rfl
theorem contN_set (f f' : Nat → Nat) (k : Nat) (h : ∀ q, q < 7 → q ≠ k → f' q = f q) : (contN f).setIfInBounds k (.int .u64 (f' k : Nat)) = contN f' := by
  apply Array.ext
  · rw [Array.size_setIfInBounds, contN_size, contN_size]
  · intro i h1 h2
    have hi : i < 7 := by rw [contN_size] at h2; exact h2
    rw [Array.getElem_setIfInBounds (by rw [contN_size]; exact hi)]
    have e2 := contN_get f' hi
    have e1 := contN_get f hi
    rw [Array.getElem?_eq_getElem h2] at e2
    rw [Array.getElem?_eq_getElem (by rw [contN_size]; exact hi)] at e1
    injection e2 with e2
    injection e1 with e1
    rw [e2]
    split
    · rename_i hh; subst hh; rfl
    · rename_i hh; rw [e1, h i hi (fun e => hh e.symm)]
/-- What is read so far: all numbers ahead of the k-th, and of it the first j octets. -/
def pf (b : List UInt8) (k j m : Nat) : Nat := if m < k then rdN b m (wd m) else if m = k then rdN b k j else 0
theorem pf_at (b : List UInt8) (k j : Nat) : pf b k j k = rdN b k j := by unfold pf; rw [if_neg (by omega), if_pos rfl]
theorem pf_next (b : List UInt8) (k : Nat) : pf b k (wd k) = pf b (k + 1) 0 := by
  funext m
  unfold pf
  by_cases h : m < k
  · rw [if_pos h, if_pos (by omega)]
  · rw [if_neg h]
    by_cases h2 : m = k
    · subst h2; rw [if_pos rfl, if_pos (by omega)]
    · rw [if_neg h2, if_neg (by omega)]
      split
      · rfl
      · rfl
theorem pf_zero (b : List UInt8) : contN (pf b 0 0) = #[.int .u64 0, .int .u64 0, .int .u64 0, .int .u64 0, .int .u64 0, .int .u64 0, .int .u64 0] := by
  have : pf b 0 0 = fun _ => 0 := by
    funext m
    unfold pf
    rw [if_neg (by omega)]
    split <;> rfl
  rw [this]; rfl
theorem pf_full (b : List UInt8) : contN (pf b 7 0) = contN (fun m => rdN b m (wd m)) := by
  unfold contN
  congr 1
theorem pf_step (b : List UInt8) (k j : Nat) : (contN (pf b k j)).setIfInBounds k (.int .u64 (rdN b k (j + 1) : Nat)) = contN (pf b k (j + 1)) := by
  have := contN_set (pf b k j) (pf b k (j + 1)) k (fun q _ hq => by unfold pf; rw [if_neg hq, if_neg hq])
  rw [pf_at] at this
  exact this
theorem or_nat {p q : Nat} (hp : p < 18446744073709551616) (hq : q < 18446744073709551616) : bits .or .u64 (p : Int) (q : Int) = ((p ||| q : Nat) : Int) := by
  show IntKind.u64.wrap _ = _
  have e : (BitVec.ofInt 64 (p : Int) ||| BitVec.ofInt 64 (q : Int)).toNat = p ||| q := by
    rw [BitVec.toNat_or, BitVec.ofInt_natCast, BitVec.ofInt_natCast, BitVec.toNat_ofNat, BitVec.toNat_ofNat, Nat.mod_eq_of_lt hp, Nat.mod_eq_of_lt hq]
  have h : p ||| q < 2 ^ 64 := Nat.or_lt_two_pow hp hq
  show IntKind.u64.wrap (((BitVec.ofInt 64 (p : Int) ||| BitVec.ofInt 64 (q : Int)).toNat : Nat) : Int) = _
  rw [e, IntKind.wrap_u64]
  omega
/-- An octet behind others. -/
theorem put_oct {p x j : Nat} (hp : p < 256 ^ j) (hx : x < 256) (hj : j < 6) : bits .or .u64 (p : Int) (IntKind.u64.wrap (IntKind.u64.wrap (x : Int) * 2 ^ (8 * j))) = ((p + x * 256 ^ j : Nat) : Int) := by
  have e : (2 : Nat) ^ (8 * j) = 256 ^ j := by rw [Nat.pow_mul]
  have h6 : 256 ^ j ≤ 256 ^ 5 := Nat.pow_le_pow_right (by omega) (by omega)
  have hm : x * 256 ^ j ≤ 255 * 256 ^ 5 := Nat.mul_le_mul (by omega) h6
  have w1 : IntKind.u64.wrap (x : Int) = (x : Int) := by rw [IntKind.wrap_u64]; omega
  have e2 : (x : Int) * 2 ^ (8 * j) = ((x * 256 ^ j : Nat) : Int) := by rw [Int.natCast_mul, ← e, Int.natCast_pow]; rfl
  rw [w1, e2]
  have w2 : IntKind.u64.wrap ((x * 256 ^ j : Nat) : Int) = ((x * 256 ^ j : Nat) : Int) := by rw [IntKind.wrap_u64]; omega
  rw [w2, or_nat (by omega) (by omega)]
  congr 1
  rw [← e, Nat.or_comm, Nat.mul_comm, ← Nat.two_pow_add_eq_or_of_lt (by rw [e]; exact hp), Nat.add_comm]

abbrev zN : Array Value := #[.int .u64 0, .int .u64 0, .int .u64 0, .int .u64 0, .int .u64 0, .int .u64 0, .int .u64 0]
structure Nb (w : World) (f : Nat → Nat) (wr : World) : Prop where
  res : Blk wr w.heap.size 59 zN
  box : Blk wr (w.heap.size + 1) 59 (contN f)
  bl : Below w.heap.size w wr
section
variable {w wr : World} {f : Nat → Nat}
theorem Nb.put (h : Nb w f wr) {f' : Nat → Nat} {i : Nat} {u : Value} (e : (contN f).setIfInBounds i u = contN f') : Nb w f' (wr.setCell ⟨w.heap.size + 1, i, none⟩ u).drew :=
  ⟨(h.res.far (p := ⟨w.heap.size + 1, i, none⟩) (by simp) u).drew, by rw [← e]; exact (h.box.set i u).drew, (bl_set h.bl (by omega) i u).drew⟩
end
set_option maxHeartbeats 4000000 in
theorem numbersIn_any (lo hi : Nat) (v : Value) (b : List UInt8) (w : World) (ht : Tab w) (h : Bs lo hi w v b) (hh : hi ≤ w.heap.size) (hb : b.length = 32) :
    Calls Tryd.prog 32 #[v] w fun e w' => e = .returned (numV fun m => rdN b m (wd m)) ∧ Below w.heap.size w w' := by
  obtain ⟨A, c, rfl, h1, h2, h3⟩ := h
  obtain ⟨bb, o, rfl, hb1, hb2, hc⟩ := h3 (by omega)
  rw [hb] at h1 ⊢
  have hcell : ∀ W p, Below w.heap.size w W → p < 32 → W.cell? ⟨bb, o + p, none⟩ = some (.int .u8 ((b.getD p 0).toNat : Int)) := fun W p hB hp => by
    have e := hc p (by omega)
    unfold u8v at e
    rw [(bcell hB).1 _ _ (by omega), e, List.getD_eq_getElem?_getD, List.getElem?_eq_getElem (by omega)]
    rfl
  have hne : bb ≠ w.heap.size + 1 := by omega
  have hP := fun i (hi : i ≤ 100) W => place_any i hi W
  have htab := fun W (hb : Below w.heap.size w W) k (hk : k < 7) => (ht.below hb (Nat.le_refl _)).2 k hk
  have X0 : Nb w (pf b 0 0) ((w.alloc (.cells zN 59)).alloc (.cells zN 59)) :=
    ⟨(Blk.new rfl).alloc _, by rw [pf_zero]; exact Blk.new (by simp), bl_alloc (bl_alloc (Below.refl _ _) _) _⟩
  replace hcell := hide hcell; replace hP := hide hP; replace htab := hide htab; replace X0 := hide X0; replace h2 := hide h2; replace h1 := hide h1
  clear h3 hc ht hb1 hb2 hb hh
  go_enter Tryd.func32, Tryd.ntmps32
  go_wp2_with fail
  go_loopw [4, 7] (fun o i wr => ∃ k : Nat, k ≤ 7 ∧ o = .int .i64 (off k : Nat) ∧ i = .int .i64 k ∧ Hid (Nb w (pf b k 0) wr)) (fun _ i _ => 7 - (intOf i).toNat)
  case atStart => exact ⟨0, by omega, rfl, rfl, X0⟩
  case round =>
    obtain ⟨k, hk, rfl, rfl, X7⟩ := hrel
    clear X0
    by_cases hlt : k < 7
    · have k1 : (k : Int) < 7 := by omega
      have htb := unhide htab wr (unhide X7).bl k hlt
      have hoff := off_succ hlt
      have hole := fun j => off_le (k := k) (j := j) hlt
      have hwd := wd_le k
      have hnx := pf_next b k
      obtain ⟨wk, hwk⟩ : ∃ wk, wk = wd k := ⟨_, rfl⟩
      obtain ⟨ok, hok⟩ : ∃ ok, ok = off k := ⟨_, rfl⟩
      rw [← hwk] at htb hoff hole hwd hnx
      rw [← hok] at hoff hole ⊢
      clear hwk
      replace hole := hide hole; replace hoff := hide hoff; replace hnx := hide hnx; replace hok := hide hok
      go_wp2_with fail
      clear htb
      obtain ⟨wo, rfl⟩ : ∃ wo : World, wo = wr := ⟨_, rfl⟩
      go_loopw [4, 13] (fun o i wr => ∃ j i' : Nat, j ≤ wk ∧ o = .int .i64 i' ∧ i = .int .i64 j ∧ Hid (i' = ok + j) ∧ Hid (Nb w (pf b k j) wr)) (fun _ i _ => wk - (intOf i).toNat)
      case atStart => exact ⟨0, ok, by omega, rfl, rfl, rfl, X7⟩
      case round =>
        obtain ⟨j, i', hj, rfl, rfl, hi', X8⟩ := hrel
        clear X7
        by_cases hlj : j < wk
        · have j1 : (j : Int) < (wk : Int) := by omega
          have i1 : i' < 24 := by have := unhide hi'; have := unhide hole j hlj; omega
          have hpl := unhide hP i' (by omega)
          have p1 := place_lt i1
          have p2 : ((place i' : Nat) : Int) < 32 := by omega
          have hs := pf_step b k j
          have hv : rdN b k (j + 1) = rdN b k j + (b.getD (place i') 0).toNat * 256 ^ j := by rw [rdN, ← unhide hok, ← unhide hi']
          have hq := put_oct (rdN_lt b k j) (b.getD (place i') 0).toNat_lt (show j < 6 by omega)
          rw [hv, ← hq] at hs
          have c0 := unhide hcell wr (place i') (unhide X8).bl p1
          have c1 : wr.cell? ⟨w.heap.size + 1, k, none⟩ = some (.int .u64 (rdN b k j : Nat)) := by rw [(unhide X8).box.cell, contN_get _ hlt, pf_at]
          have f1 : wr.frozen? ⟨w.heap.size + 1, k, none⟩ = false := (unhide X8).box.frozen k
          have X9 := hide ((unhide X8).put hs)
          have i2 : i' + 1 = ok + (j + 1) := by have := unhide hi'; omega
          have w8 : IntKind.i64.wrap (8 * (j : Int)) = ((8 * j : Nat) : Int) := by rw [IntWalk.i64_in _ (by omega)]; omega
          replace hpl := hide hpl; replace i2 := hide i2
          have l1 := (unhide X8).box.lt
          clear hs hv hq X8
          generalize place i' = pl at *
          generalize rdN b k j = pv at *
          generalize (b.getD pl 0).toNat = xv at *
          go_upto_region 9 with fail
          go_still_tail 14, (by kernel_rfl)
          refine wpStill_step (fun K hK => ?_)
          go_simp
          refine ⟨_, (unhide hpl _).mono (fun e w' h => ⟨h.1, h.2.symm⟩), hK _ ?_⟩
          clear hK K
          repeat still_step
          refine wpStill_nil ?_
          change wpList _ _ _ _ _ wr.drew
          go_wp2
          go_roundw
          case rel => exact ⟨j + 1, i' + 1, by omega, by go_num, by go_num, i2, X9⟩
          case measure => simp [intOf]; omega
        · obtain rfl : j = wk := by omega
          have i3 := (unhide hi').trans (unhide hoff)
          subst i3
          rw [unhide hnx] at X8
          go_wp2_with fail
          go_roundw
          case rel => exact ⟨k + 1, by omega, rfl, by go_num, X8⟩
          case measure => simp [intOf]; omega
    · obtain rfl : k = 7 := by omega
      have X8 := unhide X7
      obtain ⟨r1, r2, r3⟩ := X8
      rw [pf_full] at r2
      obtain ⟨f, hf⟩ : ∃ f, f = fun m => rdN b m (wd m) := ⟨_, rfl⟩
      rw [← hf] at r2
      replace hf := hide hf
      have c0 := (r2.cell 0).trans (contN_get f (by omega))
      have c1 := (r2.cell 1).trans (contN_get f (by omega))
      have c2 := (r2.cell 2).trans (contN_get f (by omega))
      have c3 := (r2.cell 3).trans (contN_get f (by omega))
      have c4 := (r2.cell 4).trans (contN_get f (by omega))
      have c5 := (r2.cell 5).trans (contN_get f (by omega))
      have c6 := (r2.cell 6).trans (contN_get f (by omega))
      have d0 := r1.cell 0
      have e0 := r1.frozen 0
      have d1 := r1.cell 1
      have e1 := r1.frozen 1
      have d2 := r1.cell 2
      have e2 := r1.frozen 2
      have d3 := r1.cell 3
      have e3 := r1.frozen 3
      have d4 := r1.cell 4
      have e4 := r1.frozen 4
      have d5 := r1.cell 5
      have e5 := r1.frozen 5
      have d6 := r1.cell 6
      have e6 := r1.frozen 6
      simp at d0 d1 d2 d3 d4 d5 d6
      replace r1 := hide r1; replace r3 := hide r3
      clear X7 r2
      go_wp2_with fail
      exact ret_n1 rfl w.heap.size _ rfl rfl (Blk.set7 (unhide r1) _ _ _ _ _ _ _) rfl ⟨by have e := unhide hf; subst e; rfl, bl_set7 (unhide r3) (Nat.le_refl _) _ _ _ _ _ _ _⟩
end Go.Proofs.YtommlgdolahfbaaDoor
