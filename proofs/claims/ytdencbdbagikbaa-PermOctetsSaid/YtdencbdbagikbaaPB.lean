import Derived.Test.YtdencbdbagikbaaPA
import Derived.Laws.StructEq
import Derived.Laws.Cover3
namespace Go.Proofs.Ytdencbdbagikbaa
open Go.RowKit


/-- A state's numbers, by place. -/
def sg (s : St) : Nat → Reg
  | 0 => s.a
  | 1 => s.b
  | 2 => s.c
  | _ => s.d
/-- The octets of the first 'k' numbers. -/
def octA (s : St) : Nat → List UInt8
  | 0 => []
  | k + 1 => octA s k ++ oct (sg s k)
theorem octA_len (s : St) (k : Nat) : (octA s k).length = 4 * k := by
  induction k with
  | zero => rfl
  | succ k ih => rw [octA, List.length_append, ih, oct_len]; omega
theorem octA_all (s : St) : octA s 4 = octs4 s := rfl
theorem run_index24 (s : St) (k : Nat) (h : k < 4) (W : World) : (Instr.index 24 (stV s) (.int .i64 (k : Int))).run Try.prog W = .ok (u32v (sg s k)) W := by
  have hs : (sizeOf 22).run Try.prog W = .ok 1 W := by kernel_rfl
  have h1 : (0 : Int) ≤ (k : Int) ∧ (k : Int) < ((4 : Nat) : Int) := by omega
  match k, h with
  | 0, _ => simp [Instr.index, asIntOf, run_underlying Try.underlying24, hs, part, sg]
  | 1, _ => simp [Instr.index, asIntOf, run_underlying Try.underlying24, hs, part, sg]
  | 2, _ => simp [Instr.index, asIntOf, run_underlying Try.underlying24, hs, part, sg]
  | 3, _ => simp [Instr.index, asIntOf, run_underlying Try.underlying24, hs, part, sg]

/-- 'make([]T, 0, c)', for every world. -/
theorem run_mk0 {P : Program} (t e : TypeId) (i : TypeInfo) (z : Value) (size : Nat) (ht : P.underlying t = some (.slice e)) (hi : P.info? e = some i) (hz : i.zero = some z) (hsize : i.size = size)
    (c : Nat) (hbytes : i.bytes * c ≤ 281474976710656) (h63 : c ≤ 9223372036854775807) (W : World) :
    (Instr.makeSlice t (.int .i64 0) (.int .i64 (c : Int))).run P W = .ok (.slice (some ⟨W.heap.size, 0, none⟩) 0 c) (W.alloc (.cells (madeCells z.cells (c * size)) e)) := by
  subst hsize
  have hb' : (i.bytes : Int) * (c : Int) ≤ 281474976710656 := by
    have h : ((i.bytes * c : Nat) : Int) ≤ 281474976710656 := by omega
    rwa [Int.natCast_mul] at h
  have hr := run_make (P := P) W t e i z ht hi hz .i64 .i64 0 c (by omega) (by omega) hb' (by omega)
  simp only [Int.toNat_natCast] at hr
  exact hr
theorem mk8 (c : Nat) (hc : c ≤ 1000000) (W : World) : ∃ cs : Array Value, cs.size = c * 1 ∧ (Instr.makeSlice 25 (.int .i64 0) (.int .i64 (c : Int))).run Try.prog W = .ok (.slice (some ⟨W.heap.size, 0, none⟩) 0 c) (W.alloc (.cells cs 5)) := by
  obtain ⟨i0, hi0, hz0, hz1, hz2⟩ := info_parts info5
  have h := run_mk0 (P := Try.prog) 25 5 i0 _ 1 Try.underlying25 hi0 hz0 hz1 c (by rw [hz2]; omega) (by omega) W
  exact ⟨_, by simp [madeCells, Value.cells], h⟩

set_option maxHeartbeats 1000000 in
theorem Octets_any (s : St) (w : World) : Calls Try.prog 6 #[stV s] w fun e w' => ∃ v, e = .returned v ∧ OwnB w' w.heap.size v (octs4 s) ∧ Below w.heap.size w w' := by
  have hB : Blk (w.alloc (.cells (stC s) 24)) w.heap.size 24 (stC s) := Blk.new rfl
  have hb : Below w.heap.size w (w.alloc (.cells (stC s) 24)) := bl_alloc (Below.refl _ _) _
  have hsz : (w.alloc (.cells (stC s) 24)).heap.size = w.heap.size + 1 := by simp
  replace hB := hide hB; replace hb := hide hb; replace hsz := hide hsz
  go_enter Try.func6, Try.ntmps6
  go_upto_region 1 with (fail)
  generalize hW : World.alloc w _ = W at *
  clear hW
  obtain ⟨cs, hcs, hmk⟩ := show ∃ cs : Array Value, cs.size = 16 * 1 ∧ (Instr.makeSlice 25 (.int .i64 0) (.int .i64 16)).run Try.prog W = .ok (.slice (some ⟨W.heap.size, 0, none⟩) 0 16) (W.alloc (.cells cs 5)) from mk8 16 (by omega) W
  have hown : OwnB (W.alloc (.cells cs 5)) w.heap.size (.slice (some ⟨W.heap.size, 0, none⟩) 0 16) (octA s 0) := own_fresh W _ _ 5 1 16 cs rfl (by rw [unhide hsz]; omega) (by simp [maxLen]) hcs
  have hb1 : Below w.heap.size w (W.alloc (.cells cs 5)) := bl_alloc (unhide hb) _
  have hB1 : Blk (W.alloc (.cells cs 5)) w.heap.size 24 (stC s) := Blk.alloc (unhide hB) _
  have hix := run_index24 s
  have hg : W.heap.size = w.heap.size + 1 := unhide hsz
  rw [hg] at hown hmk
  replace hown := hide hown; replace hb1 := hide hb1; replace hB1 := hide hB1; replace hix := hide hix; replace hcs := hide hcs
  clear hB hb hsz hg
  go_upto_region 2 with (fail)
  generalize hW1 : World.alloc W _ = W1 at *
  clear hW1 hmk
  go_wp2_with (first
    | (refine wpList_load_row rfl 24 (.tmp 1) rfl w.heap.size rfl 24 (stC s) (0, 0) _ (unhide hB1) Try.underlying24 rfl size24 ?_)
    | fail)
  go_loopw [3, 8] (fun v i wr => ∃ k : Nat, k ≤ 4 ∧ i = .int .i64 k ∧ (∃ A c, v = .slice A (4 * k) c) ∧ Hid (OwnB wr w.heap.size v (octA s k)) ∧ Hid (Below w.heap.size w wr)) (fun _ i _ => 4 - (intOf i).toNat)
  case atStart => exact ⟨0, by omega, rfl, ⟨_, _, rfl⟩, hown, hb1⟩
  case round =>
    obtain ⟨k, hk, rfl, ⟨A, c, rfl⟩, o, b⟩ := hrel
    by_cases hlt : k < 4
    · have hx := unhide hix k hlt
      have hn : octA s k ++ oct (sg s k) = octA s (k + 1) := rfl
      have hl := octA_len s (k + 1)
      have hcall := tell_any w.heap.size _ (octA s k) (sg s k) wr (unhide o) (unhide b).size (by rw [octA_len]; omega)
      rw [hn] at hcall
      have k1 : (k : Int) < 4 := by omega
      generalize sg s k = q at *
      replace hcall := hide hcall; replace hl := hide hl
      clear hn
      go_wp2_with (first
        | (go_at_call 9; refine (unhide hcall).mono ?_; rintro e w1 ⟨v1, rfl, o1, hb1⟩; obtain ⟨A1, c1, rfl⟩ := o1.form; replace o1 := hide o1)
        | fail)
      go_roundw
      case rel => exact ⟨k + 1, by omega, by go_num, ⟨A1, c1, by rw [unhide hl]⟩, o1, (unhide b).trans hb1⟩
      case measure => simp [intOf]; omega
    · obtain rfl : k = 4 := by omega
      go_wp2
      go_ret
      exact ⟨_, rfl, unhide o, unhide b⟩


/-! ### states compared -/
theorem eqInt22 (w : World) (d : Nat) (a b : Int) : (Op.equalIn (d + 1) 22 (.int .u32 a) (.int .u32 b)).run Try.prog w = .ok (a == b) w := run_equalIn_int w d 22 .u32 .u32 a b Try.underlying22
theorem part22_0 (w : World) (a b c d : Value) : (part 22 #[a, b, c, d] 0).run Try.prog w = .ok a w := by kernel_rfl
theorem part22_1 (w : World) (a b c d : Value) : (part 22 #[a, b, c, d] 1).run Try.prog w = .ok b w := by kernel_rfl
theorem part22_2 (w : World) (a b c d : Value) : (part 22 #[a, b, c, d] 2).run Try.prog w = .ok c w := by kernel_rfl
theorem part22_3 (w : World) (a b c d : Value) : (part 22 #[a, b, c, d] 3).run Try.prog w = .ok d w := by kernel_rfl
theorem size22 (w : World) : (sizeOf 22).run Try.prog w = .ok 1 w := by kernel_rfl
/-- Are two states the same? -/
def sameS (s t : St) : Bool := decide (s = t)
theorem sameS_iff {s t : St} : sameS s t = true ↔ s = t := by simp [sameS]
theorem sameS_self (s : St) : sameS s s = true := sameS_iff.2 rfl
theorem same4_iff (s t : St) : (n32 s.a == n32 t.a && n32 s.b == n32 t.b && n32 s.c == n32 t.c && n32 s.d == n32 t.d) = sameS s t := by
  rw [Bool.eq_iff_iff, sameS_iff]
  simp only [Bool.and_eq_true, beq_iff_eq]
  constructor
  · rintro ⟨⟨⟨h0, h1⟩, h2⟩, h3⟩; exact St.eq (n32_inj h0) (n32_inj h1) (n32_inj h2) (n32_inj h3)
  · rintro rfl; exact ⟨⟨⟨rfl, rfl⟩, rfl⟩, rfl⟩
theorem equalIn_st (w : World) (s t : St) : (Op.equalIn 10000 24 (stV s) (stV t)).run Try.prog w = .ok (sameS s t) w := by
  rw [← same4_iff]
  obtain ⟨a, b, c, d⟩ := s
  obtain ⟨a', b', c', d'⟩ := t
  show (Op.equalIn 10000 24 (.agg #[.int .u32 (n32 a), .int .u32 (n32 b), .int .u32 (n32 c), .int .u32 (n32 d)]) (.agg #[.int .u32 (n32 a'), .int .u32 (n32 b'), .int .u32 (n32 c'), .int .u32 (n32 d')])).run Try.prog w = _
  simp only []
  generalize n32 a = xa, n32 b = xb, n32 c = xc, n32 d = xd, n32 a' = ya, n32 b' = yb, n32 c' = yc, n32 d' = yd
  rw [show (10000 : Nat) = 9998 + 1 + 1 from rfl, Op.equalIn]
  simp only [Sem.run_bind, run_underlying Try.underlying24, Result.andThen_ok, size22]
  simp only [Std.Legacy.Range.forIn_eq_forIn_range', Std.Legacy.Range.size, List.range', Nat.sub_zero, Nat.add_one_sub_one, Nat.div_one, List.forIn_cons, List.forIn_nil, Sem.run_bind, Nat.mul_one, part22_0, Result.andThen_ok, Nat.zero_add, Nat.reduceAdd, eqInt22]
  cases h0 : xa == ya <;> cases h1 : xb == yb <;> cases h2 : xc == yc <;> cases h3 : xd == yd <;> simp [part22_1, part22_2, part22_3, eqInt22, h1, h2, h3, Result.andThen]
theorem eql_st (w : World) (s t : St) : (binOp .eql 24 (stV s) (stV t)).run Try.prog w = .ok (.bool (sameS s t)) w := by
  rw [run_eql_struct, equalIn_st]
  rfl
theorem guard24 : Try.prog.eqGuardType Try.prog.depth 24 = false := by kernel_rfl

/-! ### slices of octets -/
theorem elem25 : Try.prog.underlying 25 = some (.slice (Try.prog.elem 25)) := by kernel_rfl
theorem size5e : ∀ W, (sizeOf (Try.prog.elem 25)).run Try.prog W = .ok 1 W := fun W => by kernel_rfl
theorem slice_lh (A : Option Addr) (n c i j : Nat) (hij : i ≤ j) (hj : j ≤ c) (W : World) :
    (Instr.slice 25 (.slice A n c) (some (.int .i64 (i : Int))) (some (.int .i64 (j : Int))) none).run Try.prog W = .ok (sliced A i j c 1) W := by
  rw [run_slice_lh (P := Try.prog) W 25 A n c elem25 .i64 .i64 i j (by omega) (by omega) (by omega), size5e]
  simp [Result.andThen]
theorem slice_h (A : Option Addr) (n c j : Nat) (hj : j ≤ c) (W : World) :
    (Instr.slice 25 (.slice A n c) none (some (.int .i64 (j : Int))) none).run Try.prog W = .ok (sliced A 0 j c 1) W := by
  rw [run_slice_h (P := Try.prog) W 25 A n c elem25 .i64 j (by omega) (by omega), size5e]
  simp [Result.andThen]
theorem slice_l (A : Option Addr) (n c i : Nat) (hi : i ≤ n) (W : World) :
    (Instr.slice 25 (.slice A n c) (some (.int .i64 (i : Int))) none none).run Try.prog W = .ok (sliced A i n c 1) W := by
  rw [run_slice_l (P := Try.prog) W 25 A n c elem25 .i64 i (by omega) (by omega), size5e]
  simp [Result.andThen]
theorem Bs.part {lo hi : Nat} {w : World} {A : Option Addr} {n c : Nat} {l : List UInt8} (h : Bs lo hi w (.slice A n c) l) (i j : Nat) (hij : i ≤ j) (hj : j ≤ l.length) :
    ∃ A', sliced A i j c 1 = .slice A' (j - i) (c - i) ∧ Bs lo hi w (.slice A' (j - i) (c - i)) ((l.drop i).take (j - i)) := by
  obtain ⟨A0, c0, e, h1, h2, h3⟩ := h
  injection e with e1 e2 e3
  subst e1 e2 e3
  refine ⟨if c = i then A else A.map (·.add (i * 1)), rfl, ?_⟩
  have hlen : ((l.drop i).take (j - i)).length = j - i := by rw [List.length_take, List.length_drop]; omega
  refine ⟨_, c - i, by rw [hlen], by omega, by omega, fun h0 => ?_⟩
  obtain ⟨b, off, rfl, hb, hb', hc⟩ := h3 (by omega)
  refine ⟨b, off + i, ?_, hb, hb', fun k hk => ?_⟩
  · rw [if_neg (by omega), Nat.mul_one, Option.map_some, add_none]
  · rw [hlen] at hk
    have := hc (i + k) (by omega)
    rw [← Nat.add_assoc] at this
    rw [this]
    simp
/-- A part of a slice: what the operation answers, and what that reads as. -/
theorem Bs.cut_lh {lo hi : Nat} {w : World} {A : Option Addr} {n c : Nat} {l : List UInt8} (h : Bs lo hi w (.slice A n c) l) (i j : Nat) (I J : Int) (hI : I = (i : Int)) (hJ : J = (j : Int)) (hij : i ≤ j) (hj : j ≤ l.length) :
    ∃ A' c', (∀ W, (Instr.slice 25 (.slice A n c) (some (.int .i64 I)) (some (.int .i64 J)) none).run Try.prog W = .ok (.slice A' (j - i) c') W) ∧ Bs lo hi w (.slice A' (j - i) c') ((l.drop i).take (j - i)) := by
  subst hI hJ
  obtain ⟨A', e, hb⟩ := h.part i j hij hj
  obtain ⟨A0, c0, e0, h1, _⟩ := h
  injection e0 with _ _ e3
  exact ⟨A', c - i, fun W => by rw [slice_lh A n c i j hij (by omega), e], hb⟩
theorem Bs.cut_h {lo hi : Nat} {w : World} {A : Option Addr} {n c : Nat} {l : List UInt8} (h : Bs lo hi w (.slice A n c) l) (j : Nat) (J : Int) (hJ : J = (j : Int)) (hj : j ≤ l.length) :
    ∃ A' c', (∀ W, (Instr.slice 25 (.slice A n c) none (some (.int .i64 J)) none).run Try.prog W = .ok (.slice A' j c') W) ∧ Bs lo hi w (.slice A' j c') (l.take j) := by
  subst hJ
  obtain ⟨A', e, hb⟩ := h.part 0 j (Nat.zero_le _) hj
  obtain ⟨A0, c0, e0, h1, _⟩ := h
  injection e0 with _ _ e3
  exact ⟨A', c, fun W => by rw [slice_h A n c j (by omega), e]; rfl, hb⟩
theorem Bs.cut_l {lo hi : Nat} {w : World} {A : Option Addr} {n c : Nat} {l : List UInt8} (h : Bs lo hi w (.slice A n c) l) (i : Nat) (I : Int) (hI : I = (i : Int)) (hi' : i ≤ l.length) :
    ∃ A' c', (∀ W, (Instr.slice 25 (.slice A n c) (some (.int .i64 I)) none none).run Try.prog W = .ok (.slice A' (l.length - i) c') W) ∧ Bs lo hi w (.slice A' (l.length - i) c') (l.drop i) := by
  subst hI
  obtain ⟨A', e, hb⟩ := h.part i l.length hi' (Nat.le_refl _)
  obtain ⟨A0, c0, e0, h1, _⟩ := h
  injection e0 with _ e2 e3
  subst e2
  rw [List.take_of_length_le (by simp)] at hb
  exact ⟨A', c - i, fun W => by rw [slice_l A _ c i hi', e], hb⟩

/-! ### octets compared -/
/-- The string of bytes. -/
def strU (l : List UInt8) : ByteArray := strOfNums (l.map n8)
theorem Bs.convert {lo hi : Nat} {w : World} {v : Value} {l : List UInt8} (h : Bs lo hi w v l) : (convert 25 9 v).run Try.prog w = .ok (.string (strU l)) w := by
  obtain ⟨A, c, rfl, h1, h2, h3⟩ := h
  rcases Nat.eq_zero_or_pos l.length with h0 | h0
  · obtain rfl : l = [] := List.eq_nil_of_length_eq_zero h0
    rw [run_convert_bytes_string w 25 9 5 _ _ c Try.underlying25 Try.underlying5 Try.underlying9]
    cases A <;> simp [Conv.bytesToString, loadCells, loadCellsFrom, strU, strOfNums]
    all_goals rfl
  · obtain ⟨b, o, rfl, _, _, hc⟩ := h3 h0
    exact run_convert_bytes_arg (P := Try.prog) w 25 5 Try.underlying25 Try.underlying5 b o l.length c (l.map n8) (by simp) (fun i hi => by rw [hc i (by simpa using hi)]; simp [List.getD, List.getElem?_eq_getElem (show i < l.length by simpa using hi)]) 9 Try.underlying9
theorem strU_toList (l : List UInt8) : (strU l).toList = l := by
  have h := Lib.strOfNums_toList (l.map n8)
  have e : Lib.bytesOf (l.map n8) = l := by
    unfold Lib.bytesOf
    rw [List.map_map]
    conv => rhs; rw [← List.map_id l]
    apply List.map_congr_left
    intro x _
    simp [n8]
  exact h.trans e
theorem strU_eq (a b : List UInt8) : ((strU a).toList == (strU b).toList) = decide (a = b) := by
  have e1 : (strU a).toList = a := strU_toList a
  have e2 : (strU b).toList = b := strU_toList b
  rw [e1, e2, Bool.eq_iff_iff]; simp
set_option maxHeartbeats 400000 in
theorem same_any (lo hi lo' hi' : Nat) (v1 v2 : Value) (a b : List UInt8) (w : World) (h1 : Bs lo hi w v1 a) (h2 : Bs lo' hi' w v2 b) : Calls Try.prog 7 #[v1, v2] w fun e w' => e = .returned (.bool (decide (a = b))) ∧ w = w' := by
  have c1 := h1.convert
  have c2 := h2.convert
  clear h1 h2
  have hs := strU_eq a b
  go_enter Try.func7, Try.ntmps7
  go_wp2
  go_ret
  exact ⟨rfl, rfl⟩
theorem same_true (lo hi lo' hi' : Nat) (v1 v2 : Value) (a b : List UInt8) (w : World) (h1 : Bs lo hi w v1 a) (h2 : Bs lo' hi' w v2 b) (hab : a = b) : Calls Try.prog 7 #[v1, v2] w fun e w' => e = .returned (.bool true) ∧ w = w' := by
  have h := same_any lo hi lo' hi' v1 v2 a b w h1 h2
  rw [decide_eq_true hab] at h
  exact h


theorem ret_st2 {fn : Func} {p u : Tmp} {R : Ending → World → Prop} {a : Act} {w : World} (h : fn.results = #[.cell p 24, .tmp u]) (g : Nat) (s : St) (v : Value)
    (hp : a.tmps.getD p undef = .pointer (some ⟨g, 0, none⟩)) (hu : a.tmps.getD u undef = v) (hg : Blk w g 24 (stC s)) (hd : a.defers = []) (hR : R (.returned (.tuple #[stV s, v])) w) : bodyPost Try.prog fn R .ret a w := by
  refine bodyPost_ret (v := .tuple #[stV s, v]) ?_ hd hR
  rw [results_cell_tmp h, hp, hu]
  have hl := run_loadVar_row (P := Try.prog) w g 24 24 (stC s) (0, 0) _ hg Try.underlying24 rfl size24
  simp [asAddr, Result.andThen, hl]
def zS : St := ⟨0#32, 0#32, 0#32, 0#32⟩
theorem zC_st : zC = stC zS := rfl

set_option maxHeartbeats 400000 in
theorem live_any (w : World) : Calls Try.prog 4 #[] w fun e w' => e = .returned (.bool true) ∧ Below w.heap.size w w' := by
  have h := show Calls Try.prog 6 #[.agg #[.int .u32 1, .int .u32 0, .int .u32 0, .int .u32 0]] w (fun e w' => ∃ v, e = .returned v ∧ OwnB w' w.heap.size v (octs4 ⟨1#32, 0#32, 0#32, 0#32⟩) ∧ Below w.heap.size w w') from Octets_any ⟨1#32, 0#32, 0#32, 0#32⟩ w
  replace h := hide h
  go_enter Try.func4, Try.ntmps4
  go_wp2_with (go_at_call 6; refine (unhide h).mono ?_; rintro e w1 ⟨v1, rfl, o1, hb1⟩; obtain ⟨A1, c1, rfl⟩ := (show ∃ A c, v1 = .slice A 16 c from o1.form); clear o1)
  go_ret
  exact ⟨rfl, hb1⟩

/-! ### Of -/
/-- The first 'k' numbers of sixteen octets; zeros behind. -/
def mixS (l : List UInt8) (k : Nat) : St := ⟨if 0 < k then four l else 0#32, if 1 < k then four (l.drop 4) else 0#32, if 2 < k then four (l.drop 8) else 0#32, if 3 < k then four (l.drop 12) else 0#32⟩
theorem mixS_all (l : List UInt8) : mixS l 4 = ofF l := by
  unfold mixS ofF
  simp only [four_take4]
  rfl
theorem mixS_get (l : List UInt8) (k : Nat) (h : k < 4) : (stC (mixS l k))[k]? = some (u32v 0#32) := by
  match k, h with
  | 0, _ => rfl
  | 1, _ => rfl
  | 2, _ => rfl
  | 3, _ => rfl
theorem mixS_set (l : List UInt8) (k : Nat) (h : k < 4) : (stC (mixS l k)).setIfInBounds k (u32v (four (l.drop (4 * k)))) = stC (mixS l (k + 1)) := by
  match k, h with
  | 0, _ => rfl
  | 1, _ => rfl
  | 2, _ => rfl
  | 3, _ => rfl

set_option maxHeartbeats 400000 in
theorem Of_bad (lo : Nat) (v : Value) (l : List UInt8) (w : World) (h : Bs lo w.heap.size w v l) (hl : l.length ≠ 16) :
    Calls Try.prog 5 #[v] w fun e w' => e = .returned (.tuple #[stV zS, .int .i64 2]) ∧ Below w.heap.size w w' := by
  obtain ⟨A, c, rfl, _⟩ := h
  have h1 : ¬ (l.length : Int) = 16 := by omega
  have hB : Blk (w.alloc (.cells zC 24)) w.heap.size 24 zC := Blk.new rfl
  have hb : Below w.heap.size w (w.alloc (.cells zC 24)) := bl_alloc (Below.refl _ _) _
  replace hB := hide hB; replace hb := hide hb
  clear hl
  go_enter Try.func5, Try.ntmps5
  go_wp2_with (first
    | (refine wpList_store_row rfl 24 (.tmp 2) (.tmp 9) rfl w.heap.size zC rfl rfl 24 zC (unhide hB) size24 rfl (stC_one zS) ?_)
    | fail)
  exact ret_st2 rfl w.heap.size zS _ rfl rfl ((unhide hB).row _) rfl ⟨rfl, bl_row (unhide hb) _ (Nat.le_refl _)⟩

set_option maxHeartbeats 1000000 in
theorem Of_good (lo : Nat) (v : Value) (l : List UInt8) (w : World) (h : Bs lo w.heap.size w v l) (hl : l.length = 16) :
    Calls Try.prog 5 #[v] w fun e w' => e = .returned (.tuple #[stV (ofF l), .int .i64 0]) ∧ Below w.heap.size w w' := by
  obtain ⟨A, c, rfl⟩ : ∃ A c, v = .slice A 16 c := by obtain ⟨A, c, e, _⟩ := id h; exact ⟨A, c, by rw [e, hl]⟩
  have hB : Blk ((w.alloc (.cells zC 24)).alloc (.cells zC 24)) w.heap.size 24 zC := Blk.alloc (Blk.new rfl) _
  have hM : Blk ((w.alloc (.cells zC 24)).alloc (.cells zC 24)) (w.heap.size + 1) 24 (stC (mixS l 0)) := Blk.new (by simp)
  have hb : Below w.heap.size w ((w.alloc (.cells zC 24)).alloc (.cells zC 24)) := bl_alloc (bl_alloc (Below.refl _ _) _) _
  have hnum := fun (W : World) (hb : Below w.heap.size w W) (k : Nat) (hk : k < 4) =>
    show ∃ A' c', (∀ W, (Instr.slice 25 (.slice A 16 c) (some (.int .i64 (4 * (k : Int)))) none none).run Try.prog W = .ok (.slice A' (16 - 4 * k) c') W) ∧ Calls Try.prog 8 #[.slice A' (16 - 4 * k) c'] W (fun e w' => e = .returned (u32v (four (l.drop (4 * k)))) ∧ ∃ m, w' = W.drewN m) by
      obtain ⟨A', c', e, hb'⟩ := h.cut_l (4 * k) (4 * (k : Int)) (by omega) (by omega)
      rw [hl] at e hb'
      exact ⟨A', c', e, number_any _ _ _ _ W (hb'.below hb (Nat.le_refl _)) (by rw [List.length_drop]; omega)⟩
  replace hB := hide hB; replace hM := hide hM; replace hb := hide hb; replace hnum := hide hnum
  clear h hl
  go_enter Try.func5, Try.ntmps5
  go_upto_region 4 with (fail)
  generalize hW : World.alloc (World.alloc w _) _ = W at *
  clear hW
  go_wp2
  go_loopw [10] (fun i wr => ∃ k : Nat, k ≤ 4 ∧ i = .int .i64 k ∧ Hid (Blk wr (w.heap.size + 1) 24 (stC (mixS l k))) ∧ Hid (Blk wr w.heap.size 24 zC) ∧ Hid (Below w.heap.size w wr)) (fun i _ => 4 - (intOf i).toNat)
  case atStart => exact ⟨0, by omega, rfl, hM, hB, hb⟩
  case round =>
    obtain ⟨k, hk, rfl, M, B, b⟩ := hrel
    by_cases hlt : k < 4
    · obtain ⟨A', c', hsl, hcall⟩ := unhide hnum wr (unhide b) k hlt
      have hg := mixS_get l k hlt
      have hst := mixS_set l k hlt
      have cx : wr.cell? ⟨w.heap.size + 1, k, none⟩ = some (u32v 0#32) := by rw [(unhide M).cell]; exact hg
      have fx : wr.frozen? ⟨w.heap.size + 1, k, none⟩ = false := (unhide M).frozen k
      have k1 : (k : Int) < 4 := by omega
      have k0 : (0 : Int) ≤ (k : Int) := by omega
      have i1 : IntKind.i64.wrap (4 * (k : Int)) = 4 * (k : Int) := IntWalk.i64_in _ (by omega)
      generalize four (l.drop (4 * k)) = q at *
      replace hcall := hide hcall; replace hst := hide hst
      clear hg
      go_wp2_with (first
        | (go_at_call 8; refine (unhide hcall).mono ?_; rintro e w1 ⟨rfl, m1, rfl⟩)
        | fail)
      have M1 : Blk ((wr.drewN m1).setCell ⟨w.heap.size + 1, k, none⟩ (u32v q)) (w.heap.size + 1) 24 (stC (mixS l (k + 1))) := by rw [← unhide hst]; exact ((unhide M).drewN m1).set k (u32v q)
      have B1 : Blk ((wr.drewN m1).setCell ⟨w.heap.size + 1, k, none⟩ (u32v q)) w.heap.size 24 zC := ((unhide B).drewN m1).far (by simp) _
      have b1 : Below w.heap.size w ((wr.drewN m1).setCell ⟨w.heap.size + 1, k, none⟩ (u32v q)) := (below_drewN (unhide b) m1).setCell (by simp) _
      go_roundw
      case rel => exact ⟨k + 1, by omega, by go_num, M1, B1, b1⟩
      case measure => simp [intOf]; omega
    · obtain rfl : k = 4 := by omega
      have hs := mixS_all l
      rw [hs] at M
      clear hs
      obtain ⟨S, hS⟩ : ∃ S, S = ofF l := ⟨_, rfl⟩
      rw [← hS] at M
      replace hS := hide hS
      go_wp2_with (first
        | (refine wpList_load_row rfl 24 (.tmp 4) rfl (w.heap.size + 1) rfl 24 (stC S) (0, 0) _ (unhide M) Try.underlying24 rfl size24 ?_)
        | (refine wpList_store_row rfl 24 (.tmp 2) (.tmp 21) rfl w.heap.size (stC S) rfl rfl 24 zC (unhide B) size24 rfl (stC_one _) ?_)
        | fail)
      exact ret_st2 rfl w.heap.size S (.int .i64 0) rfl rfl ((unhide B).row _) rfl ⟨by rw [unhide hS], bl_row (unhide b) _ (Nat.le_refl _)⟩

end Go.Proofs.Ytdencbdbagikbaa
