import Derived.Test.YtplnnlepjooeoaaW5
namespace Go.Proofs.Ytplnnlepjooeoaa
open Go.RowKit

theorem u8v_xor (t : TypeId) (x y : UInt8) : binOp .xor t (u8v x) (u8v y) = pure (u8v (x ^^^ y)) := by
  unfold u8v
  rw [binOp_xor]
  simp only [Op.intBits]
  have h : IntKind.u8.wrap ((BitVec.ofInt 8 (x.toNat : Int) ^^^ BitVec.ofInt 8 (y.toNat : Int)).toNat : Int) = ((x ^^^ y).toNat : Int) := by
    have h1 := u8_xor_nat x.toNat y.toNat x.toNat_lt y.toNat_lt
    have h2 : (x ^^^ y).toNat = x.toNat ^^^ y.toNat := by simp
    rw [h2]
    exact h1
  exact congrArg (fun z => (pure (Value.int .u8 z) : Sem Value)) h
theorem run_store_u8v (P : Program) (w : World) (a : Addr) (m : Mode) (x : UInt8) : (store a (u8v x) m).run P w = stored P w a (u8v x) m := run_store P w a _ m rfl

theorem eqGuard_u32 (op : BinOp) (t : TypeId) (x y : Operand) (a b : Reg) : eqGuard op t x y (u32v a) (u32v b) = pure () := by cases op <;> rfl
/-- An octet's number. -/
def n8 (x : UInt8) : Int := (x.toNat : Int)
theorem n8_bits (x y : UInt8) : bits .xor .u8 (n8 x) (n8 y) = n8 (x ^^^ y) := by
  have h2 : (x ^^^ y).toNat = x.toNat ^^^ y.toNat := by simp
  unfold n8
  rw [h2]
  exact u8_xor_nat x.toNat y.toNat x.toNat_lt y.toNat_lt

theorem far_cell {w : World} {g g1 o1 : Nat} {v : Value} (hne : g1 ≠ g) (h : w.cell? ⟨g1, o1, none⟩ = some v) (k : Nat) (u : Value) : (w.setCell ⟨g, k, none⟩ u).drew.cell? ⟨g1, o1, none⟩ = some v :=
  (World.cell?_setCell_other w ⟨g, k, none⟩ ⟨g1, o1, none⟩ u (fun e => hne (congrArg Addr.block e).symm)).trans h
/-- The cells of a row of which 'k' are laid. -/
def laid (l : List UInt8) (k : Nat) : Array Value := ((l.take k).map u8v ++ List.replicate (l.length - k) (u8v 0)).toArray
theorem laid_size (l : List UInt8) (k : Nat) (h : k ≤ l.length) : (laid l k).size = l.length := by
  simp [laid]; omega
theorem laid_set (l : List UInt8) (k : Nat) (h : k < l.length) : (laid l k).setIfInBounds k (u8v l[k]) = laid l (k + 1) := by
  unfold laid
  rw [List.setIfInBounds_toArray]
  congr 1
  have h1 : ((l.take k).map u8v).length = k := by simp; omega
  rw [List.set_append_right _ _ (by omega), h1, Nat.sub_self]
  have h2 : l.length - k = (l.length - (k + 1)) + 1 := by omega
  rw [h2, List.replicate_succ, List.set_cons_zero, take_snoc h, List.map_append, List.append_assoc]
  rfl
theorem laid_all {w : World} {g : Nat} {l : List UInt8} (lo : Nat) (h : Blk w g 5 (laid l l.length)) (hlo : lo ≤ g) (hl : l.length ≤ 9223372036854775807) : Bs lo w.heap.size w (.slice (some ⟨g, 0, none⟩) l.length l.length) l := by
  refine ⟨_, _, rfl, Nat.le_refl _, hl, fun _ => ⟨g, 0, rfl, hlo, h.lt, fun i hi => ?_⟩⟩
  rw [h.cell]
  simp [laid, hi]
/-- Three texts, exclusive or. -/
def xor3 (a b c : List UInt8) : List UInt8 := List.zipWith (fun x y => x ^^^ y) (List.zipWith (fun x y => x ^^^ y) a b) c
theorem xor3_len {a b c : List UInt8} (hb : a.length = b.length) (hc : a.length = c.length) : (xor3 a b c).length = a.length := by
  simp [xor3]; omega
theorem xor3_get {a b c : List UInt8} (h1 : a.length = b.length) (h2 : a.length = c.length) {k : Nat} (h : k < a.length) : (xor3 a b c).getD k 0 = a.getD k 0 ^^^ b.getD k 0 ^^^ c.getD k 0 := by
  have hx := xor3_len h1 h2
  rw [List.getD_eq_getElem?_getD, List.getD_eq_getElem?_getD, List.getD_eq_getElem?_getD, List.getD_eq_getElem?_getD, List.getElem?_eq_getElem (show k < (xor3 a b c).length by omega), List.getElem?_eq_getElem h,
    List.getElem?_eq_getElem (show k < b.length by omega), List.getElem?_eq_getElem (show k < c.length by omega)]
  simp [xor3]
theorem Bs.openN {lo hi n : Nat} {w : World} {v : Value} {l : List UInt8} (h : Bs lo hi w v l) (hn : l.length = n) :
    ∃ A c, v = .slice A n c ∧ n ≤ c ∧ c ≤ 9223372036854775807 ∧ ∀ i, i < n → ∃ b off, A = some ⟨b, off, none⟩ ∧ lo ≤ b ∧ b < hi ∧ w.cell? ⟨b, off + i, none⟩ = some (u8v (l.getD i 0)) := by
  subst hn
  obtain ⟨A, c, rfl, h1, h2, h3⟩ := h
  refine ⟨A, c, rfl, h1, h2, fun i hi => ?_⟩
  obtain ⟨b, off, rfl, g1, g2, g3⟩ := h3 (by omega)
  refine ⟨b, off, rfl, g1, g2, ?_⟩
  rw [g3 i hi]
  simp [List.getD_eq_getElem?_getD, hi]
theorem laid_put {l : List UInt8} {n k : Nat} (hn : l.length = n) (h : k < n) : (laid l k).setIfInBounds k (u8v (l.getD k 0)) = laid l (k + 1) := by
  subst hn
  rw [← laid_set l k h]
  simp [List.getD_eq_getElem?_getD, h]
theorem laid_made (l : List UInt8) (n : Nat) (h : n = l.length) : madeCells (Value.int .u8 0).cells (n * 1) = laid l 0 := by
  subst h
  apply Array.ext'
  have hz : (madeCells (Value.int .u8 0).cells (l.length * 1)).toList = List.replicate (l.length * 1) (.int .u8 0) := toList_madeCells_one _ _
  rw [hz]
  simp [laid, u8v]

section
attribute [local go_sem] u32v_xor u32v_eql n8_bits eqGuard_u32
set_option maxHeartbeats 2000000 in
theorem xor_go (lo : Nat) (va vb vc : Value) (a b c : List UInt8) (w : World) (ha : Bs lo w.heap.size w va a) (hb : Bs lo w.heap.size w vb b) (hc : Bs lo w.heap.size w vc c)
    (hl : a.length ≤ 500) (h1 : a.length = b.length) (h2 : a.length = c.length) :
    Calls Try.prog 5 #[va, vb, vc] w fun e w' => e = .returned (.bool true) ∧ Below w.heap.size w w' := by
  obtain ⟨i1, hi1, hy0, hy1, hy2⟩ := info_parts info5
  have sa := fun W (hb : Below w.heap.size w W) => sum_any lo w.heap.size va a W (ha.below hb (Nat.le_refl _))
  have sb := fun W (hb' : Below w.heap.size w W) => sum_any lo w.heap.size vb b W (hb.below hb' (Nat.le_refl _))
  have sc := fun W (hb : Below w.heap.size w W) => sum_any lo w.heap.size vc c W (hc.below hb (Nat.le_refl _))
  have hx := sumR_xor3 a b c h1 h2
  change sumR (xor3 a b c) = _ at hx
  have hxl := xor3_len h1 h2
  have hget := fun k => @xor3_get a b c h1 h2 k
  have hmk := run_mk (P := Try.prog) 23 5 i1 _ 1 Try.underlying23 hi1 hy0 hy1 a.length (by rw [hy2]; omega) (by omega)
  rw [laid_made (xor3 a b c) a.length hxl.symm] at hmk
  generalize xor3 a b c = x at *
  obtain ⟨n, hn⟩ : ∃ n, a.length = n := ⟨_, rfl⟩
  obtain ⟨A, ca, rfl, a1, a2, a3⟩ := ha.openN hn
  obtain ⟨B, cb, rfl, b1, b2, b3⟩ := hb.openN (h1.symm.trans hn)
  obtain ⟨C, cc, rfl, c1, c2, c3⟩ := hc.openN (h2.symm.trans hn)
  have hxn : x.length = n := hxl.trans hn
  rw [hn] at hl hmk hget
  have hput := fun k => @laid_put x n k hxn
  have hall := fun W g lo => @laid_all W g x lo
  rw [hxn] at hall
  replace sa := hide sa; replace sb := hide sb; replace sc := hide sc; replace hx := hide hx
  replace hget := hide hget; replace hput := hide hput; replace hall := hide hall
  replace a3 := hide a3; replace b3 := hide b3; replace c3 := hide c3
  replace hxn := hide hxn
  clear hxl ha hb hc hn h1 h2
  obtain ⟨Z0, hZ⟩ : ∃ Z0, Z0 = laid x 0 := ⟨_, rfl⟩
  rw [← hZ] at hmk
  replace hZ := hide hZ
  go_enter Try.func5, Try.ntmps5
  go_wp2_with (first
    | (go_at_call 7; refine (live_any _).mono ?_; rintro e w1 ⟨rfl, hb1⟩)
    | fail)
  have G : Blk (w1.alloc (.cells Z0 5)) w1.heap.size 5 (laid x 0) := by rw [← unhide hZ]; exact Blk.new rfl
  have hbz := bl_alloc hb1 (.cells Z0 5)
  have hgsz := hb1.size
  replace G := hide G; replace hbz := hide hbz
  clear hmk
  generalize hg : w1.heap.size = g at *
  generalize w1.alloc (.cells Z0 5) = wz at *
  replace hg := hide hg
  go_loopw [34] (fun i wr => ∃ k : Nat, k ≤ n ∧ i = .int .i64 k ∧ Hid (Below w.heap.size w wr) ∧ Hid (Blk wr g 5 (laid x k))) (fun i _ => n - (intOf i).toNat)
  case atStart => exact ⟨0, by omega, rfl, hbz, G⟩
  case round =>
    obtain ⟨k, hk, rfl, hb, hB⟩ := hrel
    by_cases hlt : k < n
    · obtain ⟨g1, o1, rfl, _, q1, m1⟩ := unhide a3 k hlt
      obtain ⟨g2, o2, rfl, _, q2, m2⟩ := unhide b3 k hlt
      obtain ⟨g3, o3, rfl, _, q3, m3⟩ := unhide c3 k hlt
      have m1 := ((unhide hb).cell (p := ⟨g1, o1 + k, none⟩) q1).trans m1
      have m2 := ((unhide hb).cell (p := ⟨g2, o2 + k, none⟩) q2).trans m2
      have m3 := ((unhide hb).cell (p := ⟨g3, o3 + k, none⟩) q3).trans m3
      change wr.cell? _ = some (.int .u8 (n8 _)) at m1
      change wr.cell? _ = some (.int .u8 (n8 _)) at m2
      change wr.cell? _ = some (.int .u8 (n8 _)) at m3
      have hx1 := unhide hget k hlt
      have hp := unhide hput k hlt
      rw [hx1] at hp
      generalize a.getD k 0 = ya at *
      generalize b.getD k 0 = yb at *
      generalize c.getD k 0 = yc at *
      obtain ⟨u, m4⟩ : ∃ u, wr.cell? ⟨g, k, none⟩ = some u := by
        rw [(unhide hB).cell, Array.getElem?_eq_getElem (by rw [laid_size x k (by rw [unhide hxn]; omega), unhide hxn]; exact hlt)]
        exact ⟨_, rfl⟩
      have m5 : wr.frozen? ⟨g, k, none⟩ = false := (unhide hB).frozen k
      have k1 : (0 : Int) ≤ (k : Int) := by omega
      have k2 : (k : Int) < (n : Int) := by omega
      have hgg : w.heap.size ≤ g := hgsz
      have E1 := hide (far_cell (by omega : g1 ≠ g) m1 k (.int .u8 (n8 (ya ^^^ yb ^^^ yc))))
      have E2 := hide (far_cell (by omega : g2 ≠ g) m2 k (.int .u8 (n8 (ya ^^^ yb ^^^ yc))))
      have E3 := hide (far_cell (by omega : g3 ≠ g) m3 k (.int .u8 (n8 (ya ^^^ yb ^^^ yc))))
      have hBx := (unhide hB).set k (.int .u8 (n8 (ya ^^^ yb ^^^ yc)))
      rw [show Value.int .u8 (n8 (ya ^^^ yb ^^^ yc)) = u8v (ya ^^^ yb ^^^ yc) from rfl, hp] at hBx
      have hbx := (unhide hb).setCell (p := ⟨g, k, none⟩) hgg (.int .u8 (n8 (ya ^^^ yb ^^^ yc)))
      replace hBx := hide hBx; replace hbx := hide hbx; replace hb := hide (unhide hb)
      clear hx1 hp hB
      go_wp2_with fail
      go_region_held3 (fun W => W.cell? ⟨g1, o1 + k, none⟩ = some (.int .u8 (n8 ya)) ∧ W.cell? ⟨g2, o2 + k, none⟩ = some (.int .u8 (n8 yb)) ∧ W.cell? ⟨g3, o3 + k, none⟩ = some (.int .u8 (n8 yc))) (first | exact And.intro (unhide E1) (And.intro (unhide E2) (unhide E3)) | go_keep) (fail)
      clear m4 m5 E1 E2 E3 m1 m2 m3
      go_wp2_with fail
      go_roundw
      case rel => exact ⟨k + 1, by omega, by go_num, hide (Below.drew (unhide hbx)), hide (Blk.drew (unhide hBx))⟩
      case measure => simp [intOf]; omega
    · obtain rfl : k = n := by omega
      have sx := sum_any _ _ _ _ wr (unhide hall wr g 0 (unhide hB) (Nat.zero_le _) (by omega))
      have hb0 := unhide hb
      replace sx := hide sx
      have tok1 : True := trivial
      have tok2 : True := trivial
      have tok3 : True := trivial
      have tok4 : True := trivial
      go_wp2_with (first
        | (go_at_call 13; have _t := tok1; refine (unhide sx).mono ?_; rintro e w2 ⟨rfl, rfl⟩; clear tok1 _t)
        | (go_at_call 13; have _t := tok2; refine (unhide sa _ hb0).mono ?_; rintro e w2 ⟨rfl, rfl⟩; clear tok2 _t)
        | (go_at_call 13; have _t := tok3; refine (unhide sb _ hb0).mono ?_; rintro e w2 ⟨rfl, rfl⟩; clear tok3 _t)
        | (go_at_call 13; have _t := tok4; refine (unhide sc _ hb0).mono ?_; rintro e w2 ⟨rfl, rfl⟩; clear tok4 _t)
        | fail)
      go_ret
      exact ⟨ret_b rfl (by rw [unhide hx]; simp), hb0⟩
end
end Go.Proofs.Ytplnnlepjooeoaa
