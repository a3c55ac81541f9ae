import Derived.Test.YtlgahaidnpgnaaaDoorN8
namespace Go.Proofs.YtlgahaidnpgnaaaDoor
open Go.RowKit

/-- A cell of a row of the call's own is written. -/
theorem own_put {w : World} {base g n cap k : Nat} {e : TypeId} {xs : List Value} (h : w.ownsRow base e 1 (.slice (some ⟨g, 0, none⟩) n cap) n xs) (u : Value) :
    (w.setCell ⟨g, k, none⟩ u).ownsRow base e 1 (.slice (some ⟨g, 0, none⟩) n cap) n (xs.set k u) := by
  obtain ⟨h1, h2⟩ := h
  refine ⟨by rw [List.length_set]; exact h1, ?_⟩
  rcases h2 with ⟨h2, _⟩ | ⟨g', cap', cur, hv, hb, hh, r1, r2, r3, r4⟩
  · cases h2
  · injection hv with e1 _ e3
    injection e1 with e1
    injection e1 with e1
    subst e1 e3
    refine .inr ⟨g, cap, cur.setIfInBounds k u, rfl, hb, heap_setCell_same w g k cur e u hh, r1, r2, by simpa using r3, ?_⟩
    rw [Array.toList_setIfInBounds, List.take_set, r4]
theorem own_pos {w : World} {base n : Nat} {e : TypeId} {A : Option Addr} {c : Nat} {xs : List Value} (h : w.ownsRow base e 1 (.slice A n c) n xs) (h0 : 0 < n) :
    ∃ g cur, A = some ⟨g, 0, none⟩ ∧ base ≤ g ∧ Blk w g e cur ∧ n ≤ cur.size ∧ ∀ k, k < n → cur[k]? = xs[k]? := by
  obtain ⟨h1, h2⟩ := h
  rcases h2 with ⟨h2, h3⟩ | ⟨g', cap', cur, hv, hb, hh, r1, r2, r3, r4⟩
  · omega
  · injection hv with e1 _ e3
    refine ⟨g', cur, e1, hb, hh, by omega, fun k hk => ?_⟩
    subst r4
    rw [List.getElem?_take, if_pos (by omega), Array.getElem?_toList]

theorem ofInt_u8 (x : UInt8) : BitVec.ofInt IntKind.u8.bits (n8 x) = x.toBitVec := by
  show BitVec.ofInt 8 (x.toNat : Int) = x.toBitVec
  rw [BitVec.ofInt_natCast, ← UInt8.toNat_toBitVec, BitVec.ofNat_toNat, BitVec.setWidth_eq]
theorem q8_xor (x y : UInt8) : bits .xor .u8 (n8 x) (n8 y) = n8 (x ^^^ y) := by
  show IntKind.u8.wrap _ = _
  rw [ofInt_u8, ofInt_u8]
  show IntKind.u8.wrap (((x ^^^ y).toNat : Nat) : Int) = ((x ^^^ y).toNat : Int)
  have := (x ^^^ y).toNat_lt
  rw [IntKind.wrap_u8']
  omega

/-- The first 'k' octets exclusive or the text's, the others as they were. -/
def mixH (st t : List UInt8) (k : Nat) : List UInt8 := (List.zipWith (· ^^^ ·) st t).take k ++ st.drop k
theorem mixH_len {st t : List UInt8} (h : st.length = t.length) (k : Nat) : (mixH st t k).length = t.length := by
  unfold mixH; simp; omega
theorem mixH_zero (st t : List UInt8) : mixH st t 0 = st := by simp [mixH]
theorem mixH_get {st t : List UInt8} (h : st.length = t.length) {k : Nat} (hk : k < st.length) : (mixH st t k)[k]? = some st[k] := by
  unfold mixH
  rw [List.getElem?_append_right (by simp; omega)]
  have e : ((List.zipWith (· ^^^ ·) st t).take k).length = k := by simp; omega
  rw [e, Nat.sub_self, List.getElem?_drop, Nat.add_zero, List.getElem?_eq_getElem hk]
theorem mixH_set {st t : List UInt8} (h : st.length = t.length) {k : Nat} (hk : k < st.length) : (mixH st t k).set k (st[k] ^^^ t[k]'(by omega)) = mixH st t (k + 1) := by
  have e : ((List.zipWith (· ^^^ ·) st t).take k).length = k := by simp; omega
  have hz : k < (List.zipWith (· ^^^ ·) st t).length := by simp; omega
  unfold mixH
  rw [List.set_append_right _ _ (by omega), e, Nat.sub_self, List.drop_eq_getElem_cons hk, List.set_cons_zero]
  rw [List.take_add_one, List.getElem?_eq_getElem hz]
  simp
theorem mixH_all {st t : List UInt8} (h : st.length = t.length) : mixH st t t.length = List.zipWith (· ^^^ ·) t st := by
  unfold mixH
  rw [List.take_of_length_le (by simp; omega), List.drop_of_length_le (by omega), List.append_nil]
  rw [List.zipWith_comm]
  congr 1
  funext x y
  exact UInt8.xor_comm _ _
theorem mixH_hid (s : St) (n : Nx) (t : List UInt8) : mixH (streamF s n t.length) t t.length = hidF s n t := mixH_all (stream_len _ _ _)
section
attribute [local go_sem] q8_xor
set_option maxHeartbeats 1000000 in
theorem turned_any (s : St) (n : Nx) (v : Value) (t : List UInt8) (w : World) (ht : Tab w) (h : Bs 0 w.heap.size w v t) (hk : t.length ≤ 65536) :
    Calls Tryd.prog 25 #[stV s, u64v n, v] w fun e w' => ∃ A c, e = .returned (.tuple #[.slice A t.length c, .int .i64 0]) ∧ OwnB w' w.heap.size (.slice A t.length c) (hidF s n t) ∧ Below w.heap.size w w' := by
  have hB : Blk (w.alloc (.cells (stC s) 24)) w.heap.size 24 (stC s) := Blk.new rfl
  have hb : Below w.heap.size w (w.alloc (.cells (stC s) 24)) := bl_alloc (Below.refl _ _) _
  have hs := fun W (hb : Below w.heap.size w W) => Stream_good s n t.length W (ht.below hb (Nat.le_refl _)) hk
  have hlen := stream_len s n t.length
  have hF := mixH_hid s n t
  have hG := hid_len s n t
  generalize streamF s n t.length = st at *
  rw [← hF]
  rw [← hF] at hG
  have m0 := mixH_zero st t
  have mg := fun k (hk : k < st.length) => mixH_get hlen hk
  have ms := fun k (hk : k < st.length) => mixH_set hlen hk
  have ml := mixH_len hlen
  have hx : ∀ W, Below w.heap.size w W → ∀ k (hk : k < t.length), ∃ b off c, v = .slice (some ⟨b, off, none⟩) t.length c ∧ W.cell? ⟨b, off + k, none⟩ = some (u8v t[k]) := fun W hb k hk => by
    obtain ⟨A, c, e, _, _, h3⟩ := h
    obtain ⟨b, off, rfl, _, hb', hc⟩ := h3 (by omega)
    exact ⟨b, off, c, e, (hb.cell (p := ⟨b, off + k, none⟩) hb').trans (hc k hk)⟩
  obtain ⟨A, c, rfl⟩ := h.form
  obtain ⟨m, hm⟩ : ∃ m, m = t.length := ⟨_, rfl⟩
  have hm0 : m ≤ 65536 := by omega
  rw [← hm] at hs hlen
  replace hm := hide hm
  replace hB := hide hB; replace hb := hide hb; replace hs := hide hs; replace hlen := hide hlen; replace hF := hide hF; replace hG := hide hG; replace m0 := hide m0; replace mg := hide mg; replace ms := hide ms; replace ml := hide ml; replace hx := hide hx
  clear h hk ht
  rw [← unhide hm]
  go_enter Tryd.func25, Tryd.ntmps25
  go_upto_region 1 with (fail)
  generalize hW : World.alloc w _ = W at *
  clear hW
  have l0 := (unhide hB).lt
  have c00 : W.cell? ⟨w.heap.size, 0, none⟩ = some (u32v s.a) := (unhide hB).cell 0
  have c01 : W.cell? ⟨w.heap.size, 1, none⟩ = some (u32v s.b) := (unhide hB).cell 1
  have c02 : W.cell? ⟨w.heap.size, 2, none⟩ = some (u32v s.c) := (unhide hB).cell 2
  have c03 : W.cell? ⟨w.heap.size, 3, none⟩ = some (u32v s.d) := (unhide hB).cell 3
  go_wp2_with (first
    | (go_at_call 18; refine (unhide hs _ (unhide hb)).mono ?_; rintro e w2 ⟨A2, c2, rfl, o2, hb2⟩
       have b2 : Below w.heap.size w w2 := bl_call (unhide hb) hb2
       have o2' : w2.ownsRow w.heap.size 5 1 (.slice A2 m c2) m ((mixH st t 0).map u8v) := by rw [unhide m0]; exact own_n (ownsRow_mono o2 (unhide hb).size) (unhide hlen)
       replace b2 := hide b2; replace o2' := hide o2'
       clear o2 hb2)
    | fail)
  go_loopw [10, 11, 25] (fun _ _ i wr => ∃ k : Nat, k ≤ m ∧ i = .int .i64 k ∧ Hid (wr.ownsRow w.heap.size 5 1 (.slice A2 m c2) m ((mixH st t k).map u8v)) ∧ Hid (Below w.heap.size w wr)) (fun _ _ i _ => m - (intOf i).toNat)
  case atStart => exact ⟨0, by omega, rfl, o2', b2⟩
  case round =>
    obtain ⟨k, hkm, rfl, o, b⟩ := hrel
    by_cases hlt : k < m
    · have k1 : (k : Int) < (m : Int) := by omega
      have hkt : k < t.length := by rw [← unhide hm]; exact hlt
      have hks : k < st.length := by rw [unhide hlen]; exact hlt
      obtain ⟨bq, off, cq, hq, hc⟩ := unhide hx wr (unhide b) k hkt
      injection hq with hq1 hq2 hq3
      subst hq1 hq3
      clear hq2
      obtain ⟨g, cur, hA, hbg, hBk, hcur, hcell⟩ := own_pos (unhide o) (by omega)
      subst hA
      have gl := hBk.lt
      have cc : wr.cell? ⟨g, k, none⟩ = some (u8v st[k]) := by
        rw [hBk.cell, hcell k hlt, List.getElem?_map, unhide mg k hks]; rfl
      have cf : wr.frozen? ⟨g, k, none⟩ = false := hBk.frozen k
      have hset := unhide ms k hks
      have ho4 := own_put (k := k) (unhide o) (u8v (st[k] ^^^ t[k]))
      rw [← List.map_set, hset] at ho4
      have hb4 := (unhide b).setCell (p := ⟨g, k, none⟩) hbg (u8v (st[k] ^^^ t[k]))
      generalize st[k] = x at *
      generalize t[k] = y at *
      replace hset := hide hset; replace ho4 := hide ho4; replace hb4 := hide hb4; replace hBk := hide hBk; replace hcell := hide hcell; replace hcur := hide hcur; replace hkt := hide hkt; replace hks := hide hks; replace hbg := hide hbg
      go_wp2_with (fail)
      go_roundw
      case rel => exact ⟨k + 1, by omega, by go_num, ho4, hb4⟩
      case measure => simp [intOf]; omega
    · obtain rfl : k = m := by omega
      go_wp2_with (fail)
      go_ret2
      refine ⟨A2, c2, rfl, ?_, unhide b⟩
      have := unhide o
      unfold OwnB
      rw [unhide ml, ← unhide hm]
      exact this
end
end Go.Proofs.YtlgahaidnpgnaaaDoor
