import Derived.Test.YtjjamplgecioaaaDoorW6
import Derived.Laws.StructEq
import Derived.Laws.Cover3
namespace Go.Proofs.YtjjamplgecioaaaDoor
open Go.RowKit

theorem own_app {w : World} {base : Nat} {v : Value} {l m : List UInt8} {n : Nat} (h : w.ownsRow base 5 1 v n (l.map u8v ++ m.map u8v)) (hn : n = (l ++ m).length) : OwnB w base v (l ++ m) := by
  rw [← List.map_append] at h
  subst hn
  exact h

/-! ### states compared -/
theorem eqInt22 (w : World) (d : Nat) (a b : Int) : (Op.equalIn (d + 1) 22 (.int .u32 a) (.int .u32 b)).run Tryd.prog w = .ok (a == b) w := run_equalIn_int w d 22 .u32 .u32 a b Tryd.underlying22
theorem part22_0 (w : World) (a b c d : Value) : (part 22 #[a, b, c, d] 0).run Tryd.prog w = .ok a w := by kernel_rfl
theorem part22_1 (w : World) (a b c d : Value) : (part 22 #[a, b, c, d] 1).run Tryd.prog w = .ok b w := by kernel_rfl
theorem part22_2 (w : World) (a b c d : Value) : (part 22 #[a, b, c, d] 2).run Tryd.prog w = .ok c w := by kernel_rfl
theorem part22_3 (w : World) (a b c d : Value) : (part 22 #[a, b, c, d] 3).run Tryd.prog w = .ok d w := by kernel_rfl
theorem size22 (w : World) : (sizeOf 22).run Tryd.prog w = .ok 1 w := by kernel_rfl
/-- Are two states the same? -/
def sameS (s t : St) : Bool := decide (s = t)
theorem sameS_iff {s t : St} : sameS s t = true ↔ s = t := by simp [sameS]
theorem sameS_self (s : St) : sameS s s = true := sameS_iff.2 rfl
theorem same4_iff (s t : St) : (n32 s.a == n32 t.a && n32 s.b == n32 t.b && n32 s.c == n32 t.c && n32 s.d == n32 t.d) = sameS s t := by
  rw [Bool.eq_iff_iff, sameS_iff]
  simp only [Bool.and_eq_true, beq_iff_eq]
  constructor
  · rintro ⟨⟨⟨h0, h1⟩, h2⟩, h3⟩; exact St.eq (n32_inj h0) (n32_inj h1) (n32_inj h2) (n32_inj h3)
  · rintro rfl; exact ⟨⟨⟨rfl, rfl⟩, rfl⟩, rfl⟩
theorem equalIn_st (w : World) (s t : St) : (Op.equalIn 10000 24 (stV s) (stV t)).run Tryd.prog w = .ok (sameS s t) w := by
  rw [← same4_iff]
  obtain ⟨a, b, c, d⟩ := s
  obtain ⟨a', b', c', d'⟩ := t
  show (Op.equalIn 10000 24 (.agg #[.int .u32 (n32 a), .int .u32 (n32 b), .int .u32 (n32 c), .int .u32 (n32 d)]) (.agg #[.int .u32 (n32 a'), .int .u32 (n32 b'), .int .u32 (n32 c'), .int .u32 (n32 d')])).run Tryd.prog w = _
  simp only []
  generalize n32 a = xa, n32 b = xb, n32 c = xc, n32 d = xd, n32 a' = ya, n32 b' = yb, n32 c' = yc, n32 d' = yd
  rw [show (10000 : Nat) = 9998 + 1 + 1 from rfl, Op.equalIn]
  simp only [Sem.run_bind, run_underlying Tryd.underlying24, Result.andThen_ok, size22]
  simp only [Std.Legacy.Range.forIn_eq_forIn_range', Std.Legacy.Range.size, List.range', Nat.sub_zero, Nat.add_one_sub_one, Nat.div_one, List.forIn_cons, List.forIn_nil, Sem.run_bind, Nat.mul_one, part22_0, Result.andThen_ok, Nat.zero_add, Nat.reduceAdd, eqInt22]
  cases h0 : xa == ya <;> cases h1 : xb == yb <;> cases h2 : xc == yc <;> cases h3 : xd == yd <;> simp [part22_1, part22_2, part22_3, eqInt22, h1, h2, h3, Result.andThen]
theorem eql_st (w : World) (s t : St) : (binOp .eql 24 (stV s) (stV t)).run Tryd.prog w = .ok (.bool (sameS s t)) w := by
  rw [run_eql_struct, equalIn_st]
  rfl
theorem guard24 : Tryd.prog.eqGuardType Tryd.prog.depth 24 = false := by kernel_rfl

/-! ### slices of octets -/
theorem elem25 : Tryd.prog.underlying 25 = some (.slice (Tryd.prog.elem 25)) := by kernel_rfl
theorem size5e : ∀ W, (sizeOf (Tryd.prog.elem 25)).run Tryd.prog W = .ok 1 W := fun W => by kernel_rfl
theorem slice_lh (A : Option Addr) (n c i j : Nat) (hij : i ≤ j) (hj : j ≤ c) (W : World) :
    (Instr.slice 25 (.slice A n c) (some (.int .i64 (i : Int))) (some (.int .i64 (j : Int))) none).run Tryd.prog W = .ok (sliced A i j c 1) W := by
  rw [run_slice_lh (P := Tryd.prog) W 25 A n c elem25 .i64 .i64 i j (by omega) (by omega) (by omega), size5e]
  simp [Result.andThen]
theorem slice_h (A : Option Addr) (n c j : Nat) (hj : j ≤ c) (W : World) :
    (Instr.slice 25 (.slice A n c) none (some (.int .i64 (j : Int))) none).run Tryd.prog W = .ok (sliced A 0 j c 1) W := by
  rw [run_slice_h (P := Tryd.prog) W 25 A n c elem25 .i64 j (by omega) (by omega), size5e]
  simp [Result.andThen]
theorem slice_l (A : Option Addr) (n c i : Nat) (hi : i ≤ n) (W : World) :
    (Instr.slice 25 (.slice A n c) (some (.int .i64 (i : Int))) none none).run Tryd.prog W = .ok (sliced A i n c 1) W := by
  rw [run_slice_l (P := Tryd.prog) W 25 A n c elem25 .i64 i (by omega) (by omega), size5e]
  simp [Result.andThen]
theorem Bs.part {lo hi : Nat} {w : World} {A : Option Addr} {n c : Nat} {l : List UInt8} (h : Bs lo hi w (.slice A n c) l) (i j : Nat) (hij : i ≤ j) (hj : j ≤ l.length) :
    ∃ A', sliced A i j c 1 = .slice A' (j - i) (c - i) ∧ Bs lo hi w (.slice A' (j - i) (c - i)) ((l.drop i).take (j - i)) := by
  obtain ⟨A0, c0, e, h1, h2, h3⟩ := h
  injection e with e1 e2 e3
  subst e1 e2 e3
  refine ⟨if c = i then A else A.map (·.add (i * 1)), rfl, ?_⟩
  have hlen : ((l.drop i).take (j - i)).length = j - i := by rw [List.length_take, List.length_drop]; omega
  refine ⟨_, c - i, by rw [hlen], by omega, by omega, fun h0 => ?_⟩
  obtain ⟨b, off, rfl, hb, hb', hc⟩ := h3 (by omega)
  refine ⟨b, off + i, ?_, hb, hb', fun k hk => ?_⟩
  · rw [if_neg (by omega), Nat.mul_one, Option.map_some, add_none]
  · rw [hlen] at hk
    have := hc (i + k) (by omega)
    rw [← Nat.add_assoc] at this
    rw [this]
    simp
/-- A part of a slice: what the operation answers, and what that reads as. -/
theorem Bs.cut_lh {lo hi : Nat} {w : World} {A : Option Addr} {n c : Nat} {l : List UInt8} (h : Bs lo hi w (.slice A n c) l) (i j : Nat) (I J : Int) (hI : I = (i : Int)) (hJ : J = (j : Int)) (hij : i ≤ j) (hj : j ≤ l.length) :
    ∃ A' c', (∀ W, (Instr.slice 25 (.slice A n c) (some (.int .i64 I)) (some (.int .i64 J)) none).run Tryd.prog W = .ok (.slice A' (j - i) c') W) ∧ Bs lo hi w (.slice A' (j - i) c') ((l.drop i).take (j - i)) := by
  subst hI hJ
  obtain ⟨A', e, hb⟩ := h.part i j hij hj
  obtain ⟨A0, c0, e0, h1, _⟩ := h
  injection e0 with _ _ e3
  exact ⟨A', c - i, fun W => by rw [slice_lh A n c i j hij (by omega), e], hb⟩
theorem Bs.cut_h {lo hi : Nat} {w : World} {A : Option Addr} {n c : Nat} {l : List UInt8} (h : Bs lo hi w (.slice A n c) l) (j : Nat) (J : Int) (hJ : J = (j : Int)) (hj : j ≤ l.length) :
    ∃ A' c', (∀ W, (Instr.slice 25 (.slice A n c) none (some (.int .i64 J)) none).run Tryd.prog W = .ok (.slice A' j c') W) ∧ Bs lo hi w (.slice A' j c') (l.take j) := by
  subst hJ
  obtain ⟨A', e, hb⟩ := h.part 0 j (Nat.zero_le _) hj
  obtain ⟨A0, c0, e0, h1, _⟩ := h
  injection e0 with _ _ e3
  exact ⟨A', c, fun W => by rw [slice_h A n c j (by omega), e]; rfl, hb⟩
theorem Bs.cut_l {lo hi : Nat} {w : World} {A : Option Addr} {n c : Nat} {l : List UInt8} (h : Bs lo hi w (.slice A n c) l) (i : Nat) (I : Int) (hI : I = (i : Int)) (hi' : i ≤ l.length) :
    ∃ A' c', (∀ W, (Instr.slice 25 (.slice A n c) (some (.int .i64 I)) none none).run Tryd.prog W = .ok (.slice A' (l.length - i) c') W) ∧ Bs lo hi w (.slice A' (l.length - i) c') (l.drop i) := by
  subst hI
  obtain ⟨A', e, hb⟩ := h.part i l.length hi' (Nat.le_refl _)
  obtain ⟨A0, c0, e0, h1, _⟩ := h
  injection e0 with _ e2 e3
  subst e2
  rw [List.take_of_length_le (by simp)] at hb
  exact ⟨A', c - i, fun W => by rw [slice_l A _ c i hi', e], hb⟩

/-! ### octets compared -/
/-- The string of bytes. -/
def strU (l : List UInt8) : ByteArray := strOfNums (l.map n8)
theorem Bs.convert {lo hi : Nat} {w : World} {v : Value} {l : List UInt8} (h : Bs lo hi w v l) : (convert 25 9 v).run Tryd.prog w = .ok (.string (strU l)) w := by
  obtain ⟨A, c, rfl, h1, h2, h3⟩ := h
  rcases Nat.eq_zero_or_pos l.length with h0 | h0
  · obtain rfl : l = [] := List.eq_nil_of_length_eq_zero h0
    rw [run_convert_bytes_string w 25 9 5 _ _ c Tryd.underlying25 Tryd.underlying5 Tryd.underlying9]
    cases A <;> simp [Conv.bytesToString, loadCells, loadCellsFrom, strU, strOfNums]
    all_goals rfl
  · obtain ⟨b, o, rfl, _, _, hc⟩ := h3 h0
    exact run_convert_bytes_arg (P := Tryd.prog) w 25 5 Tryd.underlying25 Tryd.underlying5 b o l.length c (l.map n8) (by simp) (fun i hi => by rw [hc i (by simpa using hi)]; simp [List.getD, List.getElem?_eq_getElem (show i < l.length by simpa using hi)]) 9 Tryd.underlying9
theorem strU_toList (l : List UInt8) : (strU l).toList = l := by
  have h := Lib.strOfNums_toList (l.map n8)
  have e : Lib.bytesOf (l.map n8) = l := by
    unfold Lib.bytesOf
    rw [List.map_map]
    conv => rhs; rw [← List.map_id l]
    apply List.map_congr_left
    intro x _
    simp [n8]
  exact h.trans e
theorem strU_eq (a b : List UInt8) : ((strU a).toList == (strU b).toList) = decide (a = b) := by
  have e1 : (strU a).toList = a := strU_toList a
  have e2 : (strU b).toList = b := strU_toList b
  rw [e1, e2, Bool.eq_iff_iff]; simp
/-- The beginning of a row of the call's own is one. -/
theorem own_cut {w : World} {base : Nat} {A : Option Addr} {m c : Nat} {l : List UInt8} (h : OwnB w base (.slice A m c) l) (n : Nat) (J : Int) (hJ : J = (n : Int)) (hn : n ≤ l.length) :
    ∃ A' c', (∀ W, (Instr.slice 25 (.slice A m c) none (some (.int .i64 J)) none).run Tryd.prog W = .ok (.slice A' n c') W) ∧ OwnB w base (.slice A' n c') (l.take n) := by
  subst hJ
  obtain ⟨h1, h2⟩ := h
  have hlen : (l.take n).length = n := by rw [List.length_take]; omega
  rcases h2 with ⟨e, h0⟩ | ⟨g, cap, cur, e, hb, hg, hnc, hcm, hcs, htake⟩
  · injection e with e1 e2 e3
    subst e1 e2 e3
    obtain rfl : n = 0 := by omega
    refine ⟨none, 0, fun W => by rw [slice_h none 0 0 0 (by omega)]; rfl, ?_⟩
    have : l.take 0 = [] := rfl
    rw [this]
    exact World.ownsRow_nil _ _ _ _
  · injection e with e1 e2 e3
    subst e1 e2 e3
    refine ⟨some ⟨g, 0, none⟩, c, fun W => by rw [slice_h _ _ c n (by omega)]; simp [sliced, Addr.add], ?_⟩
    unfold OwnB
    rw [hlen]
    refine ⟨by simp; omega, .inr ⟨g, c, cur, rfl, hb, hg, by omega, hcm, hcs, ?_⟩⟩
    rw [Nat.mul_one] at htake ⊢
    rw [List.map_take, ← htake, List.take_take, Nat.min_eq_left hn]
end Go.Proofs.YtjjamplgecioaaaDoor
