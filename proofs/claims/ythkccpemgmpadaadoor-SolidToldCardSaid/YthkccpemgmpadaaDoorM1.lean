import Derived.Test.YthkccpemgmpadaaDoorProg
import Derived.WalkKit
import Derived.Handy
import Derived.Lib.SliceRun
import Derived.WalkSpells
import Derived.WalkLawsBesides
import Derived.Lib.Hide
import Derived.Deep.QuietTactic
import Derived.BigQuiet
import Derived.Deep.RegionHeld3
import Derived.Laws.CopyOwn
import Derived.Deep.AppendLies
import Derived.Deep.LoopGhost
import Derived.StillTailTactics
import Derived.Laws.BitsAllLaws
import Derived.Lib.Bytes
import Derived.Lib.AppendZeros
import Derived.Deep.DeepCutAuto
import Derived.Laws.StructEq
import Derived.Laws.Cover3
import Derived.IntWalk
/- Registers and sums, plain: nothing of the program. -/
namespace Go.Proofs.YthkccpemgmpadaaDoor.C
set_option maxRecDepth 100000

abbrev Reg := BitVec 32
/-- What a register is exclusive or, if it was odd. -/
def oddC : Reg := 3988292384#32
/-- A register halved once. -/
def half1 (r : Reg) : Reg := (r >>> 1) ^^^ (oddC &&& -(r &&& 1#32))
def halfN : Nat → Reg → Reg
  | 0, r => r
  | n + 1, r => half1 (halfN n r)
/-- An octet as a register. -/
def oct (c : UInt8) : Reg := c.toBitVec.setWidth 32
def step1 (r : Reg) (c : UInt8) : Reg := halfN 8 (r ^^^ oct c)
def stepR (r : Reg) (l : List UInt8) : Reg := l.foldl step1 r
def sumR (l : List UInt8) : Reg := ~~~ stepR 4294967295#32 l
/-- A sum's octets. -/
def octs (s : Reg) : List UInt8 := [⟨s.setWidth 8⟩, ⟨(s >>> 8).setWidth 8⟩, ⟨(s >>> 16).setWidth 8⟩, ⟨(s >>> 24).setWidth 8⟩]

theorem neg_lsb (r : Reg) : -(r &&& 1#32) = if r.getLsbD 0 then BitVec.allOnes 32 else 0#32 := by
  have h : r &&& 1#32 = if r.getLsbD 0 then 1#32 else 0#32 := by
    ext i hi
    simp only [BitVec.getElem_and, BitVec.getElem_one]
    rcases Nat.eq_zero_or_pos i with h0 | h0
    · subst h0
      by_cases hb : r.getLsbD 0
      · rw [if_pos hb]; simpa using hb
      · rw [if_neg hb]; simpa using hb
    · have : ¬ i = 0 := by omega
      by_cases hb : r.getLsbD 0
      · rw [if_pos hb]; simp [BitVec.getElem_one, this]
      · rw [if_neg hb]; simp [this]
  rw [h]
  by_cases hb : r.getLsbD 0
  · rw [if_pos hb, if_pos hb]; decide
  · rw [if_neg hb, if_neg hb]; decide
theorem half1_if (r : Reg) : half1 r = (r >>> 1) ^^^ (if r.getLsbD 0 then oddC else 0#32) := by
  unfold half1
  rw [neg_lsb]
  by_cases hb : r.getLsbD 0
  · rw [if_pos hb, if_pos hb, BitVec.and_allOnes]
  · rw [if_neg hb, if_neg hb, BitVec.and_zero]
theorem half1_xor (a b : Reg) : half1 (a ^^^ b) = half1 a ^^^ half1 b := by
  rw [half1_if, half1_if, half1_if, BitVec.ushiftRight_xor_distrib, BitVec.getLsbD_xor]
  cases a.getLsbD 0 <;> cases b.getLsbD 0 <;> simp
  · exact (BitVec.xor_assoc _ _ _)
  · rw [BitVec.xor_assoc, BitVec.xor_assoc, BitVec.xor_comm oddC]
  · rw [BitVec.xor_assoc, BitVec.xor_comm oddC, BitVec.xor_assoc, BitVec.xor_self, BitVec.xor_zero]
theorem halfN_xor (n : Nat) (a b : Reg) : halfN n (a ^^^ b) = halfN n a ^^^ halfN n b := by
  induction n with
  | zero => rfl
  | succ n ih => simp only [halfN]; rw [ih, half1_xor]
theorem half1_zero {d : Reg} (h : half1 d = 0#32) : d = 0#32 := by
  rw [half1_if] at h
  cases hb : d.getLsbD 0 with
  | true =>
    rw [hb, if_pos rfl] at h
    have := congrArg (fun x : Reg => x.getLsbD 31) h
    simp [oddC] at this
  | false =>
    rw [hb] at h
    simp at h
    ext i hi
    rcases Nat.eq_zero_or_pos i with h0 | h0
    · subst h0; simpa using hb
    · have := congrArg (fun x : Reg => x.getLsbD (i - 1)) h
      simp [BitVec.getLsbD_ushiftRight] at this
      rw [show 1 + (i - 1) = i by omega] at this
      simpa [BitVec.getLsbD_eq_getElem hi] using this
theorem halfN_zero {n : Nat} {d : Reg} (h : halfN n d = 0#32) : d = 0#32 := by
  induction n with
  | zero => exact h
  | succ n ih => exact ih (half1_zero h)
theorem xor_eq_zero {a b : Reg} (h : a ^^^ b = 0#32) : a = b := by
  have : a ^^^ b ^^^ b = 0#32 ^^^ b := by rw [h]
  rwa [BitVec.xor_assoc, BitVec.xor_self, BitVec.xor_zero, BitVec.zero_xor] at this
theorem halfN_inj {n : Nat} {a b : Reg} (h : halfN n a = halfN n b) : a = b := by
  apply xor_eq_zero
  apply halfN_zero (n := n)
  rw [halfN_xor, h, BitVec.xor_self]
theorem oct_inj {a b : UInt8} (h : oct a = oct b) : a = b := by
  unfold oct at h
  have h2 := congrArg (fun x : Reg => x.setWidth 8) h
  simp at h2
  exact UInt8.toBitVec_inj.1 h2
theorem step1_inj {a b : Reg} {c : UInt8} (h : step1 a c = step1 b c) : a = b := by
  have := halfN_inj h
  have h2 : a ^^^ oct c ^^^ oct c = b ^^^ oct c ^^^ oct c := by rw [this]
  rwa [BitVec.xor_assoc, BitVec.xor_self, BitVec.xor_zero, BitVec.xor_assoc, BitVec.xor_self, BitVec.xor_zero] at h2
theorem step1_inj' {a : Reg} {c d : UInt8} (h : step1 a c = step1 a d) : c = d := by
  have := halfN_inj h
  have h2 : a ^^^ (a ^^^ oct c) = a ^^^ (a ^^^ oct d) := by rw [this]
  rw [← BitVec.xor_assoc, ← BitVec.xor_assoc, BitVec.xor_self, BitVec.zero_xor, BitVec.zero_xor] at h2
  exact oct_inj h2
theorem stepR_cons (r : Reg) (c : UInt8) (l : List UInt8) : stepR r (c :: l) = stepR (step1 r c) l := rfl
theorem stepR_append (r : Reg) (l m : List UInt8) : stepR r (l ++ m) = stepR (stepR r l) m := List.foldl_append
theorem stepR_snoc (r : Reg) (l : List UInt8) (c : UInt8) : stepR r (l ++ [c]) = step1 (stepR r l) c := stepR_append r l [c]
theorem stepR_inj {l : List UInt8} : ∀ {a b : Reg}, stepR a l = stepR b l → a = b := by
  induction l with
  | nil => intro a b h; exact h
  | cons c l ih => intro a b h; exact step1_inj (ih h)
theorem stepR_iff (l : List UInt8) (a b : Reg) : stepR a l = stepR b l ↔ a = b := ⟨stepR_inj, fun h => by rw [h]⟩
theorem not_inj {a b : Reg} (h : ~~~ a = ~~~ b) : a = b := by
  have := congrArg (fun x : Reg => ~~~ x) h
  simpa using this
/-- With one octet another one the sum is another one. -/
theorem sumR_set {l : List UInt8} {i : Nat} (hi : i < l.length) {c : UInt8} (h : l[i] ≠ c) : sumR (l.set i c) ≠ sumR l := by
  intro he
  have he := not_inj he
  have h1 : l = l.take i ++ l[i] :: l.drop (i + 1) := by rw [List.getElem_cons_drop, List.take_append_drop]
  have h2 : l.set i c = l.take i ++ c :: l.drop (i + 1) := by rw [List.set_eq_take_append_cons_drop, if_pos hi]
  rw [h2] at he
  conv at he => rhs; rw [h1]
  rw [stepR_append, stepR_append, stepR_cons, stepR_cons] at he
  exact h (step1_inj' (stepR_inj he)).symm
/-- Halved without being odd. -/
theorem halfN_shift (x : Reg) : ∀ k, (∀ i, i < k → x.getLsbD i = false) → halfN k x = x >>> k := by
  intro k
  induction k with
  | zero => intro _; simp [halfN]
  | succ k ih =>
    intro h
    rw [halfN, ih fun i hi => h i (by omega), half1_if, BitVec.getLsbD_ushiftRight, Nat.add_zero, h k (by omega)]
    simp [BitVec.shiftRight_add]
/-- What is above the lowest octet comes down by it. -/
theorem halfN_low (y x : Reg) : halfN 8 (y ^^^ x) = halfN 8 (y ^^^ oct ⟨x.setWidth 8⟩) ^^^ (x >>> 8) := by
  have h : x = oct ⟨x.setWidth 8⟩ ^^^ ((x >>> 8) <<< 8) := by
    ext i hi
    simp only [oct, BitVec.getElem_xor, BitVec.getElem_shiftLeft, BitVec.getElem_setWidth, BitVec.getLsbD_setWidth]
    by_cases h8 : i < 8
    · simp [h8, BitVec.getLsbD_eq_getElem hi]
    · simp [h8, BitVec.getElem_ushiftRight, BitVec.getLsbD_eq_getElem, show 8 + (i - 8) = i by omega, hi]
  have h2 : halfN 8 ((x >>> 8) <<< 8) = x >>> 8 := by
    rw [halfN_shift _ 8 (by intro i hi; simp [BitVec.getLsbD_shiftLeft, hi])]
    ext i hi
    simp only [BitVec.getElem_ushiftRight, BitVec.getLsbD_shiftLeft, BitVec.getLsbD_ushiftRight]
    by_cases h8 : 8 + i < 32
    · simp [h8]
    · simp [h8, BitVec.getLsbD_of_ge x (8 + i) (by omega)]
  conv => lhs; rw [h]
  rw [← BitVec.xor_assoc, halfN_xor, h2]
/-- Four octets are stepped by as a register is halved. -/
theorem stepR_octs (r x : Reg) : stepR r (octs x) = halfN 8 (halfN 8 (halfN 8 (halfN 8 (r ^^^ x)))) := by
  have e1 : (x >>> 8) >>> 8 = x >>> 16 := by rw [← BitVec.shiftRight_add]
  have e2 : (x >>> 16) >>> 8 = x >>> 24 := by rw [← BitVec.shiftRight_add]
  have e3 : (x >>> 24) >>> 8 = 0#32 := by
    rw [← BitVec.shiftRight_add]
    ext i hi
    simp [BitVec.getElem_ushiftRight]
  rw [halfN_low r x, halfN_low _ (x >>> 8), e1, halfN_low _ (x >>> 16), e2, halfN_low _ (x >>> 24), e3, BitVec.xor_zero]
  rfl
theorem not_xor (s : Reg) : s ^^^ ~~~ s = 4294967295#32 := by
  have : (4294967295#32 : Reg) = BitVec.allOnes 32 := by decide
  rw [this]
  ext i hi
  simp only [BitVec.getElem_xor, BitVec.getElem_not, BitVec.getElem_allOnes]
  cases s[i] <;> rfl
theorem tail_const : ~~~ halfN 8 (halfN 8 (halfN 8 (halfN 8 4294967295#32))) = 558161692#32 := by decide +kernel
/-- A text, its sum behind it, has one sum. -/
theorem sumR_sealed (l : List UInt8) : sumR (l ++ octs (sumR l)) = 558161692#32 := by
  unfold sumR
  rw [stepR_append, stepR_octs, not_xor]
  exact tail_const
theorem octs_inj {a b : Reg} (h : octs a = octs b) : a = b := by
  have h0 : stepR 0#32 (octs a) = stepR 0#32 (octs b) := by rw [h]
  rw [stepR_octs, stepR_octs] at h0
  have := halfN_inj (halfN_inj (halfN_inj (halfN_inj h0)))
  rwa [BitVec.zero_xor, BitVec.zero_xor] at this
theorem octs_len (s : Reg) : (octs s).length = 4 := rfl
theorem swap3 (r s t x y z : Reg) : r ^^^ x ^^^ (s ^^^ y) ^^^ (t ^^^ z) = r ^^^ s ^^^ t ^^^ (x ^^^ y ^^^ z) := by
  ext i hi
  simp only [BitVec.getElem_xor]
  cases r[i] <;> cases s[i] <;> cases t[i] <;> cases x[i] <;> cases y[i] <;> cases z[i] <;> rfl
/-- Three texts of one length. -/
theorem stepR_xor3 : ∀ (a b c : List UInt8) (r s t : Reg), a.length = b.length → a.length = c.length →
    stepR (r ^^^ s ^^^ t) (List.zipWith (fun x y => x ^^^ y) (List.zipWith (fun x y => x ^^^ y) a b) c) = stepR r a ^^^ stepR s b ^^^ stepR t c := by
  intro a
  induction a with
  | nil =>
    intro b c r s t hb hc
    obtain rfl : b = [] := List.eq_nil_of_length_eq_zero hb.symm
    obtain rfl : c = [] := List.eq_nil_of_length_eq_zero hc.symm
    rfl
  | cons x a ih =>
    intro b c r s t hb hc
    match b, c, hb, hc with
    | y :: b, z :: c, hb, hc =>
      simp only [List.zipWith_cons_cons, stepR_cons]
      rw [← ih b c _ _ _ (by simpa using hb) (by simpa using hc)]
      congr 1
      unfold step1
      rw [← halfN_xor, ← halfN_xor]
      congr 1
      have : oct (x ^^^ y ^^^ z) = oct x ^^^ oct y ^^^ oct z := by
        ext i hi
        simp [oct]
      rw [this]
      exact (swap3 r s t (oct x) (oct y) (oct z)).symm
theorem not3 (a b c : Reg) : ~~~ (a ^^^ b ^^^ c) = ~~~ a ^^^ ~~~ b ^^^ ~~~ c := by
  ext i hi
  simp
theorem sumR_xor3 (a b c : List UInt8) (hb : a.length = b.length) (hc : a.length = c.length) :
    sumR (List.zipWith (fun x y => x ^^^ y) (List.zipWith (fun x y => x ^^^ y) a b) c) = sumR a ^^^ sumR b ^^^ sumR c := by
  unfold sumR
  rw [← not3, ← stepR_xor3 a b c _ _ _ hb hc, BitVec.xor_self, BitVec.zero_xor]
theorem live_sum : sumR [49, 50, 51, 52, 53, 54, 55, 56, 57] = 3421780262#32 := by decide +kernel
end Go.Proofs.YthkccpemgmpadaaDoor.C

namespace Go.Proofs.YthkccpemgmpadaaDoor.C
set_option maxRecDepth 100000
open Go.RowKit

/-- A byte's cell. -/
def u8v (x : UInt8) : Value := .int .u8 (x.toNat : Int)

/-- The slice value 'v' reads, in the world 'w', as the bytes 'l'; its block lies from 'lo' on and below 'hi'. -/
def Bs (lo hi : Nat) (w : World) (v : Value) (l : List UInt8) : Prop :=
  ∃ A c, v = .slice A l.length c ∧ l.length ≤ c ∧ c ≤ 9223372036854775807 ∧
    (0 < l.length → ∃ b off, A = some ⟨b, off, none⟩ ∧ lo ≤ b ∧ b < hi ∧ ∀ i (h : i < l.length), w.cell? ⟨b, off + i, none⟩ = some (u8v l[i]))

/-- The two worlds agree on the blocks from 'lo' on and below 'hi'. -/
def Agree (lo hi : Nat) (w w' : World) : Prop := ∀ k, lo ≤ k → k < hi → w'.heap[k]? = w.heap[k]?

theorem Agree.of_below {lo hi B : Nat} {w w' : World} (h : Below B w w') (hb : hi ≤ B) : Agree lo hi w w' := fun k _ hk => h.block k (by omega)
theorem Agree.refl (lo hi : Nat) (w : World) : Agree lo hi w w := fun _ _ _ => rfl

theorem Bs.keep {lo hi : Nat} {w w' : World} {v : Value} {l : List UInt8} (h : Bs lo hi w v l) (k : Agree lo hi w w') : Bs lo hi w' v l := by
  obtain ⟨A, c, rfl, h1, h2, h3⟩ := h
  refine ⟨A, c, rfl, h1, h2, fun h0 => ?_⟩
  obtain ⟨b, off, rfl, hb, hb', hc⟩ := h3 h0
  exact ⟨b, off, rfl, hb, hb', fun i hi => (World.cell?_of_block (k b hb hb')).trans (hc i hi)⟩

theorem Bs.mono {lo lo' hi hi' : Nat} {w : World} {v : Value} {l : List UInt8} (h : Bs lo hi w v l) (h1 : lo' ≤ lo) (h2 : hi ≤ hi') : Bs lo' hi' w v l := by
  obtain ⟨A, c, rfl, a1, a2, h3⟩ := h
  refine ⟨A, c, rfl, a1, a2, fun h0 => ?_⟩
  obtain ⟨b, off, rfl, hb, hb', hc⟩ := h3 h0
  exact ⟨b, off, rfl, by omega, by omega, hc⟩

theorem Bs.below {lo hi B : Nat} {w w' : World} {v : Value} {l : List UInt8} (h : Bs lo hi w v l) (hb : Below B w w') (hB : hi ≤ B) : Bs lo hi w' v l :=
  h.keep (Agree.of_below hb hB)

theorem bl_alloc {a w : World} (h : Below a.heap.size a w) (o : Obj) : Below a.heap.size a (w.alloc o) := h.alloc h.size o
theorem bl_call {a w w' : World} (h : Below a.heap.size a w) (h' : Below w.heap.size w w') : Below a.heap.size a w' := h.trans (h'.mono h.size)
theorem bl_grown {a w w' : World} {row : Option Nat} (h : Below a.heap.size a w) (hg : w.grownBy w' row) (hr : ∀ k, row = some k → a.heap.size ≤ k) : Below a.heap.size a w' := h.grown hg h.size hr
theorem bcell {W w1 : World} (hb : Below W.heap.size W w1) : (∀ b o, b < W.heap.size → w1.cell? ⟨b, o, none⟩ = W.cell? ⟨b, o, none⟩) ∧ (∀ b o, b < W.heap.size → w1.frozen? ⟨b, o, none⟩ = W.frozen? ⟨b, o, none⟩) :=
  ⟨fun b o h => hb.cell (p := ⟨b, o, none⟩) h, fun b o h => hb.frozen (p := ⟨b, o, none⟩) h⟩
theorem hide {p : Prop} (h : p) : Hid p := h
theorem unhide {p : Prop} (h : Hid p) : p := h
theorem ret_v {v v' : Value} (h : v = v') : Ending.returned v = .returned v' := by rw [h]
theorem ret_b {v : Value} {b b' : Bool} (h : v = .bool b) (e : b = b') : Ending.returned v = .returned (.bool b') := by rw [h, e]
theorem ret_i {v : Value} {k : IntKind} {b b' : Int} (h : v = .int k b) (e : b = b') : Ending.returned v = .returned (.int k b') := by rw [h, e]

/-! ### append onto a row of the call's own, whatever the source -/
/-- A source of an append: where there is an element there is an address with the cells 'news'. -/
def SrcOk (w : World) (A : Option Addr) (m : Nat) (news : List Value) : Prop := 0 < m → ∃ ad, A = some ad ∧ ∀ j u, news[j]? = some u → w.cell? (ad.add j) = some u
theorem SrcOk.below {w w' : World} {A : Option Addr} {m : Nat} {news : List Value} (h : SrcOk w A m news) (hb : Below w.heap.size w w') : SrcOk w' A m news := fun h0 => by
  obtain ⟨ad, e, hc⟩ := h h0
  exact ⟨ad, e, fun j u hu => (hb.cell (World.block_lt_of_cell? w _ (hc j u hu))).trans (hc j u hu)⟩
section
variable {P : Program} (w : World)
theorem run_app (base : Nat) (t ty e : TypeId) (i : TypeInfo) (z : Value) (size bytes : Nat) (ht : P.underlying t = some (.slice e)) (hi : P.info? e = some i) (hz : i.zero = some z)
    (hsize : i.size = size) (hby : i.bytes = bytes) (hzs : z.cells.size = size) (hsz : 0 < size)
    (v : Value) (n : Nat) (xs : List Value) (hown : w.ownsRow base e size v n xs)
    (A : Option Addr) (m c : Nat) (news : List Value) (hl : news.length = m * size) (hr : SrcOk w A m news) (h1 : ∀ u ∈ news, u.oneCell' = true)
    (h63 : n + m ≤ maxLen) (hbytes : (n + m) * bytes ≤ 140737488355328) (hbase : base ≤ w.heap.size) :
    ∃ v' w', (Builtin.append_ #[t, t] ty #[v, .slice A m c]).run P w = .ok v' w' ∧ w'.ownsRow base e size v' (n + m) (xs ++ news) ∧ w.grownBy w' v.ownBlock := by
  rcases Nat.eq_zero_or_pos m with rfl | hm
  · have hn : news = [] := List.eq_nil_of_length_eq_zero (by simpa using hl)
    subst hn
    rcases A with _ | ad
    · refine ⟨v, w, ?_, by simpa using hown, World.grownBy.refl w _⟩
      rcases hown.2 with ⟨rfl, rfl⟩ | ⟨g, cap, cur, rfl, _, _, hnc, _⟩
      · simp [Builtin.append_, run_underlying ht, sizeOf, typeInfo, hi, Builtin.lenOf, Builtin.firstCells]
      · simp [Builtin.append_, run_underlying ht, sizeOf, typeInfo, hi, Builtin.lenOf, Builtin.firstCells, hnc, storeCells]
    · obtain ⟨v', w', a, b, c', _⟩ := run_append_own (P := P) w base t ty e i z size bytes ht hi hz hsize hby hzs hsz v n xs hown ad 0 c [] hl (by simp) h1 h63 hbytes hbase
      exact ⟨v', w', a, b, c'⟩
  · obtain ⟨ad, rfl, hc⟩ := hr hm
    obtain ⟨v', w', a, b, c', _⟩ := run_append_own (P := P) w base t ty e i z size bytes ht hi hz hsize hby hzs hsz v n xs hown ad m c news hl hc h1 h63 hbytes hbase
    exact ⟨v', w', a, b, c'⟩

theorem wp_app {o : Oper} {a : Act} {K : Act → World → Prop} {Q : Exit → Act → World → Prop} (s x : Operand) (t : TypeId)
    (ho : o.op = .call { callee := .builtin .append, args := #[s, x], argTypes := #[t, t] })
    (base : Nat) (e : TypeId) (i : TypeInfo) (z : Value) (size bytes : Nat) (ht : P.underlying t = some (.slice e)) (hi : P.info? e = some i) (hz : i.zero = some z)
    (hsize : i.size = size) (hby : i.bytes = bytes) (hzs : z.cells.size = size) (hsz : 0 < size)
    (v : Value) (n : Nat) (xs : List Value) (hs : a.eval s = v) (hown : w.ownsRow base e size v n xs)
    (A : Option Addr) (m c : Nat) (news : List Value) (hx : a.eval x = .slice A m c) (hl : news.length = m * size) (hr : SrcOk w A m news) (h1 : ∀ u ∈ news, u.oneCell' = true)
    (h63 : n + m ≤ maxLen) (hbytes : (n + m) * bytes ≤ 140737488355328) (hbase : base ≤ w.heap.size)
    (h : ∀ v' w', w'.ownsRow base e size v' (n + m) (xs ++ news) → w.grownBy w' v.ownBlock → K (a.put o.dst v') w') : o.wp P a w K Q := by
  obtain ⟨v', w', hr, h2, h3⟩ := run_app (P := P) w base t o.type e i z size bytes ht hi hz hsize hby hzs hsz v n xs hown A m c news hl hr h1 h63 hbytes hbase
  unfold Oper.wp execOp
  simp only [ho, resolve, invoke, builtin, Sem.run_bind, Sem.run_pure, Result.andThen_ok, List.map_toArray, List.map_cons, List.map_nil, hs, hx, hr]
  exact h v' w' h2 h3

theorem wpList_app {ops : Array Oper} {rest : List Oper} {o : Oper} {a : Act} {Q : Exit → Act → World → Prop} (hgd : o.guard = none) (s x : Operand) (t : TypeId)
    (ho : o.op = .call { callee := .builtin .append, args := #[s, x], argTypes := #[t, t] })
    (base : Nat) (e : TypeId) (i : TypeInfo) (z : Value) (size bytes : Nat) (ht : P.underlying t = some (.slice e)) (hi : P.info? e = some i) (hz : i.zero = some z)
    (hsize : i.size = size) (hby : i.bytes = bytes) (hzs : z.cells.size = size) (hsz : 0 < size)
    (v : Value) (n : Nat) (xs : List Value) (hs : a.eval s = v) (hown : w.ownsRow base e size v n xs)
    (A : Option Addr) (m c : Nat) (news : List Value) (hx : a.eval x = .slice A m c) (hl : news.length = m * size) (hr : SrcOk w A m news) (h1 : ∀ u ∈ news, u.oneCell' = true)
    (h63 : n + m ≤ maxLen) (hbytes : (n + m) * bytes ≤ 140737488355328) (hbase : base ≤ w.heap.size)
    (h : ∀ v' w', w'.ownsRow base e size v' (n + m) (xs ++ news) → w.grownBy w' v.ownBlock → wpList P ops Q rest (a.put o.dst v') w') : wpList P ops Q (o :: rest) a w :=
  wpList_plain hgd fun _ hK => wp_app w s x t ho base e i z size bytes ht hi hz hsize hby hzs hsz v n xs hs hown A m c news hx hl hr h1 h63 hbytes hbase fun v' w' h2 h3 => hK _ _ (h v' w' h2 h3)
end

/-- 'make([]T, n)', for every world. -/
theorem run_mk {P : Program} (t e : TypeId) (i : TypeInfo) (z : Value) (size : Nat) (ht : P.underlying t = some (.slice e)) (hi : P.info? e = some i) (hz : i.zero = some z) (hsize : i.size = size)
    (n : Nat) (hbytes : i.bytes * n ≤ 281474976710656) (h63 : n ≤ 9223372036854775807) (W : World) :
    (Instr.makeSlice t (.int .i64 (n : Int)) (.int .i64 (n : Int))).run P W = .ok (.slice (some ⟨W.heap.size, 0, none⟩) n n) (W.alloc (.cells (madeCells z.cells (n * size)) e)) := by
  subst hsize
  have hb' : (i.bytes : Int) * (n : Int) ≤ 281474976710656 := by
    have h : ((i.bytes * n : Nat) : Int) ≤ 281474976710656 := by omega
    rwa [Int.natCast_mul] at h
  have hr := run_make (P := P) W t e i z ht hi hz .i64 .i64 n n (by omega) (Int.le_refl _) hb' (by omega)
  simp only [Int.toNat_natCast] at hr
  exact hr

/-! ### bytes that the call owns -/
theorem ownsRow_len {w : World} {base : Nat} {e : TypeId} {size : Nat} {v : Value} {n : Nat} {xs : List Value} (h : w.ownsRow base e size v n xs) : xs.length = n * size := h.1

theorem ownsRow_mono {w : World} {base base' : Nat} {e : TypeId} {size : Nat} {v : Value} {n : Nat} {xs : List Value} (h : w.ownsRow base e size v n xs) (hb : base' ≤ base) : w.ownsRow base' e size v n xs := by
  obtain ⟨h1, h2⟩ := h
  refine ⟨h1, ?_⟩
  rcases h2 with h2 | ⟨g, cap, cur, hv, hg, r⟩
  · exact .inl h2
  · exact .inr ⟨g, cap, cur, hv, by omega, r⟩
theorem ownsRow_form {w : World} {base : Nat} {e : TypeId} {size : Nat} {v : Value} {n : Nat} {xs : List Value} (h : w.ownsRow base e size v n xs) : ∃ A c, v = .slice A n c := by
  rcases h.2 with ⟨rfl, rfl⟩ | ⟨g, cap, cur, rfl, _⟩
  · exact ⟨_, _, rfl⟩
  · exact ⟨_, _, rfl⟩
/-- A row of the call's own stays while a cell of a block below its base is written. -/
theorem ownsRow_setCell' {w : World} {base : Nat} {e : TypeId} {size : Nat} {v : Value} {n : Nat} {xs : List Value} (h : w.ownsRow base e size v n xs) {a : Addr} (ha : a.block < base) (u : Value) : (w.setCell a u).ownsRow base e size v n xs :=
  ownsRow_setCell_below h ha u

/-- What the call owns as a row of bytes reads as these bytes. -/
theorem Bs.of_own {w : World} {base : Nat} {e : TypeId} {v : Value} {l : List UInt8} (h : w.ownsRow base e 1 v l.length (l.map u8v)) : Bs base w.heap.size w v l := by
  rcases h.2 with ⟨rfl, h0⟩ | ⟨g, cap, cur, rfl, hb, hg, hnc, hcm, hcs, htake⟩
  · refine ⟨none, 0, by rw [h0], by omega, by omega, fun hp => by omega⟩
  · refine ⟨_, cap, rfl, hnc, by simpa [maxLen] using hcm, fun hp => ⟨g, 0, rfl, hb, ?_, fun i hi => ?_⟩⟩
    · rcases Nat.lt_or_ge g w.heap.size with h1 | h1
      · exact h1
      · rw [Array.getElem?_eq_none h1] at hg; cases hg
    · have hc := World.ownsRow.cellAt (w := w) (base := base) (e := e) (size := 1) (g := g) (n := l.length) (cap := cap) (xs := l.map u8v) h i (by omega)
      rw [Nat.zero_add, hc]
      simp [hi]

theorem u8v_one (x : UInt8) : (u8v x).oneCell' = true := rfl
theorem u8s_one (l : List UInt8) : ∀ u ∈ l.map u8v, u.oneCell' = true := by
  intro u hu
  obtain ⟨x, _, rfl⟩ := List.mem_map.1 hu
  rfl

/-- The cells of a slice that reads as bytes, as an append asks for them. -/
theorem Bs.src {lo hi : Nat} {w : World} {A : Option Addr} {n c : Nat} {l : List UInt8} (h : Bs lo hi w (.slice A n c) l) :
    n = l.length ∧ SrcOk w A n (l.map u8v) := by
  obtain ⟨A', c', e, _, _, h3⟩ := h
  injection e with e1 e2 e3
  subst e1 e2 e3
  refine ⟨rfl, fun h0 => ?_⟩
  obtain ⟨b, off, rfl, _, _, hc⟩ := h3 h0
  refine ⟨_, rfl, fun j u hu => ?_⟩
  rw [List.getElem?_map, Option.map_eq_some_iff] at hu
  obtain ⟨x, hx, rfl⟩ := hu
  obtain ⟨hj, rfl⟩ := List.getElem?_eq_some_iff.1 hx
  have := hc j hj
  unfold Addr.add
  split
  · rename_i h0; subst h0; simpa using this
  · exact this


/-! ### a block that is known whole -/
def Blk (w : World) (g : Nat) (t : TypeId) (cs : Array Value) : Prop := w.heap[g]? = some (.cells cs t (0, 0))
section
variable {w w' : World} {g : Nat} {t : TypeId} {cs : Array Value}
theorem Blk.lt (h : Blk w g t cs) : g < w.heap.size := by
  rcases Nat.lt_or_ge g w.heap.size with h1 | h1
  · exact h1
  · unfold Blk at h; rw [Array.getElem?_eq_none h1] at h; cases h
theorem Blk.cell (h : Blk w g t cs) (i : Nat) : w.cell? ⟨g, i, none⟩ = cs[i]? := cell_of_row w g i cs t (0, 0) h
theorem Blk.frozen (h : Blk w g t cs) (i : Nat) : w.frozen? ⟨g, i, none⟩ = false := frozen_of_row w g i cs t h
theorem Blk.new (hg : g = w.heap.size) : Blk (w.alloc (.cells cs t)) g t cs := by subst hg; exact heap_alloc_new w _
theorem Blk.drew (h : Blk w g t cs) : Blk w.drew g t cs := h
theorem Blk.drewN (h : Blk w g t cs) (n : Nat) : Blk (w.drewN n) g t cs := h
theorem Blk.alloc (h : Blk w g t cs) (o : Obj) : Blk (w.alloc o) g t cs := (Below.heap_alloc w o g h.lt).trans h
theorem Blk.set (h : Blk w g t cs) (i : Nat) (u : Value) : Blk (w.setCell ⟨g, i, none⟩ u) g t (cs.setIfInBounds i u) := heap_setCell_same w g i cs t u h
theorem Blk.far (h : Blk w g t cs) {p : Addr} (hp : g ≠ p.block) (u : Value) : Blk (w.setCell p u) g t cs := (Below.heap_setCell w p u g hp).trans h
theorem Blk.below {B : Nat} (h : Blk w g t cs) (hb : Below B w w') (hg : g < B) : Blk w' g t cs := (hb.block g hg).trans h
theorem Blk.ne_ {g' : Nat} {t' : TypeId} {cs' : Array Value} (h : Blk w g t cs) (h' : Blk w g' t' cs') (hne : t ≠ t') : g ≠ g' := by
  rintro rfl
  unfold Blk at h h'
  rw [h] at h'
  injection h' with h'
  injection h' with _ ht
  exact hne ht
theorem Blk.uniq {cs' : Array Value} (h : Blk w g t cs) (h' : Blk w g t cs') : cs = cs' := by
  unfold Blk at h h'
  rw [h] at h'
  injection h' with h'
  injection h'
end

theorem own_below {w w' : World} {base B : Nat} {e : TypeId} {size : Nat} {v : Value} {n : Nat} {xs : List Value} (h : w.ownsRow base e size v n xs) (hb : Below B w w') (hB : w.heap.size ≤ B) : w'.ownsRow base e size v n xs := by
  obtain ⟨h1, h2⟩ := h
  refine ⟨h1, ?_⟩
  rcases h2 with h2 | ⟨g, cap, cur, hv, hg, hh, r⟩
  · exact .inl h2
  · have hl : g < w.heap.size := Blk.lt (t := e) (cs := cur) hh
    exact .inr ⟨g, cap, cur, hv, hg, (hb.block g (by omega)).trans hh, r⟩
theorem own_far {w : World} {base : Nat} {e : TypeId} {size : Nat} {v : Value} {n : Nat} {xs : List Value} (h : w.ownsRow base e size v n xs) {g : Nat} {t : TypeId} {cs : Array Value} (hg : Blk w g t cs) (hne : e ≠ t) (i : Nat) (u : Value) : (w.setCell ⟨g, i, none⟩ u).ownsRow base e size v n xs := by
  obtain ⟨h1, h2⟩ := h
  refine ⟨h1, ?_⟩
  rcases h2 with h2 | ⟨g', cap, cur, hv, hb, hh, r⟩
  · exact .inl h2
  · have : g' ≠ g := Blk.ne_ (t := e) (cs := cur) hh hg hne
    exact .inr ⟨g', cap, cur, hv, hb, (Below.heap_setCell w ⟨g, i, none⟩ u g' this).trans hh, r⟩


theorem Blk.set3 {w : World} {g : Nat} {t : TypeId} {a b c x y z : Value} (h : Blk w g t #[a, b, c]) : Blk (((w.setCell ⟨g, 0, none⟩ x).setCell ⟨g, 1, none⟩ y).setCell ⟨g, 2, none⟩ z) g t #[x, y, z] := by
  simpa using ((h.set 0 x).set 1 y).set 2 z
theorem Blk.set2 {w : World} {g : Nat} {t : TypeId} {a b x y : Value} (h : Blk w g t #[a, b]) : Blk ((w.setCell ⟨g, 0, none⟩ x).setCell ⟨g, 1, none⟩ y) g t #[x, y] := by
  simpa using (h.set 0 x).set 1 y
theorem own_set3 {w : World} {base : Nat} {e : TypeId} {size : Nat} {v : Value} {n : Nat} {xs : List Value} {g : Nat} {t : TypeId} {a b c x y z : Value} (h : w.ownsRow base e size v n xs) (hg : Blk w g t #[a, b, c]) (hne : e ≠ t) :
    (((w.setCell ⟨g, 0, none⟩ x).setCell ⟨g, 1, none⟩ y).setCell ⟨g, 2, none⟩ z).ownsRow base e size v n xs :=
  own_far (own_far (own_far h hg hne 0 x) (hg.set 0 x) hne 1 y) ((hg.set 0 x).set 1 y) hne 2 z


/-- The block of a slice value lies below 'B'. -/
def VBelow (B : Nat) (v : Value) : Prop := ∀ a n c, v = .slice (some a) n c → a.block < B
theorem own_below2 {w w' : World} {base B : Nat} {e : TypeId} {size : Nat} {v : Value} {n : Nat} {xs : List Value} (h : w.ownsRow base e size v n xs) (hb : Below B w w') (hB : VBelow B v) : w'.ownsRow base e size v n xs := by
  obtain ⟨h1, h2⟩ := h
  refine ⟨h1, ?_⟩
  rcases h2 with h2 | ⟨g, cap, cur, hv, hg, hh, r⟩
  · exact .inl h2
  · exact .inr ⟨g, cap, cur, hv, hg, (hb.block g (hB _ _ _ hv)).trans hh, r⟩
theorem own_vbelow {w : World} {base : Nat} {e : TypeId} {size : Nat} {v : Value} {n : Nat} {xs : List Value} (h : w.ownsRow base e size v n xs) : VBelow w.heap.size v := by
  intro a n' c hv
  rcases h.2 with ⟨h1, _⟩ | ⟨g, cap, cur, h1, _, hh, _⟩
  · rw [h1] at hv; injection hv with hv; cases hv
  · rw [h1] at hv
    injection hv with hv
    injection hv with hv
    subst hv
    exact Blk.lt (t := e) (cs := cur) hh



/-! ### registers as the model has them -/
/-- A register's value. -/
def u32v (x : Reg) : Value := .int .u32 (x.toNat : Int)
/-- A number's value as a register's. -/
theorem u32v_lit (n : Nat) (h : n < 4294967296) : Value.int .u32 (n : Int) = u32v (BitVec.ofNat 32 n) := by
  unfold u32v
  rw [BitVec.toNat_ofNat, Nat.mod_eq_of_lt (by omega)]
theorem u32v_inj {x y : Reg} (h : u32v x = u32v y) : x = y := by
  unfold u32v at h
  injection h with _ h
  exact BitVec.eq_of_toNat_eq (by omega)

section
variable (t : TypeId) (x y : Reg)
theorem ofInt_reg : BitVec.ofInt IntKind.u32.bits (x.toNat : Int) = x := by
  show BitVec.ofInt 32 (x.toNat : Int) = x
  rw [BitVec.ofInt_natCast, BitVec.ofNat_toNat, BitVec.setWidth_eq]
theorem wrap_reg : IntKind.u32.wrap ((x.toNat : Nat) : Int) = (x.toNat : Int) := by
  have := x.isLt
  rw [IntKind.wrap_u32']
  omega
theorem u32v_xor : binOp .xor t (u32v x) (u32v y) = pure (u32v (x ^^^ y)) := by
  unfold u32v
  rw [binOp_xor]
  simp only [Op.intBits]
  rw [ofInt_reg, ofInt_reg]
  exact congrArg (fun z => (pure (Value.int .u32 z) : Sem Value)) (wrap_reg (x ^^^ y))
theorem u32v_and : binOp .and t (u32v x) (u32v y) = pure (u32v (x &&& y)) := by
  unfold u32v
  rw [binOp_and]
  simp only [Op.intBits]
  rw [ofInt_reg, ofInt_reg]
  exact congrArg (fun z => (pure (Value.int .u32 z) : Sem Value)) (wrap_reg (x &&& y))
theorem u32v_and1 : binOp .and t (u32v x) (.int .u32 1) = pure (u32v (x &&& 1#32)) := u32v_and t x 1#32
theorem u32v_andC : binOp .and t (.int .u32 3988292384) (u32v y) = pure (u32v (oddC &&& y)) := u32v_and t oddC y
theorem u32v_not : Op.unary .xor (u32v x) = pure (u32v (~~~ x)) := by
  have h := u32v_xor 0 4294967295#32 x
  have e : (4294967295#32 : Reg) ^^^ x = ~~~ x := by
    have : (4294967295#32 : Reg) = BitVec.allOnes 32 := by decide
    rw [this]
    ext i hi
    simp only [BitVec.getElem_xor, BitVec.getElem_not, BitVec.getElem_allOnes]
    cases x[i] <;> rfl
  rw [e] at h
  rw [← h]
  show Op.intBits .xor .u32 (if IntKind.u32.signed then -1 else IntKind.u32.max) _ = binOp .xor 0 (.int .u32 4294967295) (.int .u32 _)
  rw [binOp_xor]
  rfl
theorem u32v_neg : Op.unary .neg (u32v x) = pure (u32v (- x)) := by
  show Op.intArith .sub .u32 0 _ = _
  have h : IntKind.u32.wrap (0 - (x.toNat : Int)) = ((- x).toNat : Int) := by
    rw [IntKind.wrap_u32', BitVec.toNat_neg]
    have := x.isLt
    omega
  exact congrArg (fun z => (pure (Value.int .u32 z) : Sem Value)) h
theorem u32v_shr (k : Nat) (yk : IntKind) (hk : k ≤ 32) : binOp .shr t (u32v x) (.int yk (k : Int)) = pure (u32v (x >>> k)) := by
  unfold u32v
  rw [binOp_shr]
  unfold Op.shift
  rw [if_neg (by omega)]
  have h : (x.toNat : Int).fdiv (2 ^ min ((k : Int).toNat) IntKind.u32.bits) = ((x >>> k).toNat : Int) := by
    rw [BitVec.toNat_ushiftRight, Nat.shiftRight_eq_div_pow, Int.toNat_natCast]
    have : min k IntKind.u32.bits = k := Nat.min_eq_left hk
    rw [this, Int.fdiv_eq_ediv_of_nonneg _ (by exact Int.le_of_lt (Int.pow_pos (by omega)))]
    simp
  exact congrArg (fun z => (pure (Value.int .u32 z) : Sem Value)) h
theorem u32v_shr1 : binOp .shr t (u32v x) (.int .u64 1) = pure (u32v (x >>> 1)) := u32v_shr t x 1 _ (by omega)
theorem u32v_shr8 : binOp .shr t (u32v x) (.int .u64 8) = pure (u32v (x >>> 8)) := u32v_shr t x 8 _ (by omega)
theorem u32v_shr16 : binOp .shr t (u32v x) (.int .u64 16) = pure (u32v (x >>> 16)) := u32v_shr t x 16 _ (by omega)
theorem u32v_shr24 : binOp .shr t (u32v x) (.int .u64 24) = pure (u32v (x >>> 24)) := u32v_shr t x 24 _ (by omega)
theorem u32v_eql : binOp .eql t (u32v x) (u32v y) = pure (.bool (decide (x = y))) := by
  unfold u32v
  rw [binOp_eql]
  have h : ((x.toNat : Int) == (y.toNat : Int)) = decide (x = y) := by
    rw [Bool.eq_iff_iff]
    simp only [beq_iff_eq, decide_eq_true_eq]
    exact ⟨fun h => BitVec.eq_of_toNat_eq (by omega), fun h => by rw [h]⟩
  rw [h]
theorem u32v_conv (w : World) (c : UInt8) : (convert 5 22 (u8v c)).run Tryd.prog w = .ok (u32v (oct c)) w := by
  have h : IntKind.u32.wrap (c.toNat : Int) = ((oct c).toNat : Int) := by
    have := c.toNat_lt
    rw [IntKind.wrap_u32']
    simp [oct]
    omega
  simp [convert, run_underlying Tryd.underlying5, run_underlying Tryd.underlying22, u8v, u32v, Conv.intToInt, h]
theorem u8v_conv (w : World) : (convert 22 5 (u32v x)).run Tryd.prog w = .ok (u8v ⟨x.setWidth 8⟩) w := by
  have h : IntKind.u8.wrap (x.toNat : Int) = ((⟨x.setWidth 8⟩ : UInt8).toNat : Int) := by
    rw [IntKind.wrap_u8']
    show _ = ((x.setWidth 8).toNat : Int)
    rw [BitVec.toNat_setWidth]
    omega
  simp [convert, run_underlying Tryd.underlying5, run_underlying Tryd.underlying22, u8v, u32v, Conv.intToInt, h]
end
end Go.Proofs.YthkccpemgmpadaaDoor.C

namespace Go.Proofs.YthkccpemgmpadaaDoor.C
set_option maxRecDepth 100000
open Go.RowKit
attribute [local go_sem] u32v_xor u32v_and1 u32v_andC u32v_not u32v_neg u32v_shr1 u32v_shr8 u32v_shr16 u32v_shr24 u32v_eql u32v_conv u8v_conv

set_option maxHeartbeats 400000 in
theorem halved_any (r : Reg) (w : World) : Calls Tryd.prog 47 #[u32v r] w fun e w' => e = .returned (u32v (halfN 8 r)) ∧ w = w' := by
  go_enter Tryd.func47, Tryd.ntmps47
  go_wp2
  go_loop [0, 3] (fun s i => ∃ k : Nat, k ≤ 8 ∧ i = .int .i64 k ∧ s = u32v (halfN k r)) (fun _ i => 8 - (intOf i).toNat)
  case atStart => exact ⟨0, by omega, rfl, rfl⟩
  case round =>
    obtain ⟨k, hk, rfl, rfl⟩ := hrel
    by_cases hlt : k < 8
    · go_wp2
      go_round
      case rel => exact ⟨k + 1, by omega, by go_num, rfl⟩
      case measure => simp [intOf]; omega
    · obtain rfl : k = 8 := by omega
      go_wp2
      go_ret
      exact ⟨rfl, rfl⟩

theorem take_snoc {l : List UInt8} {k : Nat} (h : k < l.length) : l.take (k + 1) = l.take k ++ [l[k]] := by
  rw [List.take_add_one, List.getElem?_eq_getElem h]; rfl

set_option maxHeartbeats 400000 in
theorem step_any (lo hi : Nat) (v : Value) (l : List UInt8) (r : Reg) (w : World) (h : Bs lo hi w v l) :
    Calls Tryd.prog 33 #[u32v r, v] w fun e w' => e = .returned (u32v (stepR r l)) ∧ w = w' := by
  obtain ⟨A, c, rfl, h1, h2, h3⟩ := h
  go_enter Tryd.func33, Tryd.ntmps33
  go_wp2
  go_loop [0, 9] (fun s i => ∃ k : Nat, k ≤ l.length ∧ i = .int .i64 k ∧ s = u32v (stepR r (l.take k))) (fun _ i => l.length - (intOf i).toNat)
  case atStart => exact ⟨0, by omega, rfl, rfl⟩
  case round =>
    obtain ⟨k, hk, rfl, rfl⟩ := hrel
    by_cases hlt : k < l.length
    · obtain ⟨b, off, rfl, _, _, hc0⟩ := h3 (by omega)
      have hc := hc0 k hlt
      have hs : stepR r (l.take (k + 1)) = step1 (stepR r (l.take k)) l[k] := by rw [take_snoc hlt, stepR_snoc]
      replace hs := hide hs
      clear h3 hc0
      generalize stepR r (l.take k) = s at *
      generalize l[k] = o at *
      go_wp2_with (go_at_call 47; refine (halved_any _ _).mono ?_; rintro e w' ⟨rfl, rfl⟩)
      go_round
      case rel => exact ⟨k + 1, by omega, by go_num, by rw [unhide hs]; rfl⟩
      case measure => simp [intOf]; omega
    · obtain rfl : k = l.length := by omega
      go_wp2
      go_ret
      exact ⟨rfl, rfl⟩

theorem sum_any (lo hi : Nat) (v : Value) (l : List UInt8) (w : World) (h : Bs lo hi w v l) :
    Calls Tryd.prog 23 #[v] w fun e w' => e = .returned (u32v (sumR l)) ∧ w = w' := by
  have hs : Calls Tryd.prog 33 #[.int .u32 4294967295, v] w fun e w' => e = .returned (u32v (stepR 4294967295#32 l)) ∧ w = w' := step_any lo hi v l 4294967295#32 w h
  obtain ⟨A, c, rfl, h1, h2, h3⟩ := h
  replace hs := hide hs
  clear h3
  go_enter Tryd.func23, Tryd.ntmps23
  go_wp2_with (go_at_call 33; refine (unhide hs).mono ?_; rintro e w' ⟨rfl, rfl⟩)
  go_ret
  exact ⟨rfl, rfl⟩

/-- A register's lowest octet, as a number. -/
def low8 (x : Reg) : Int := ((⟨x.setWidth 8⟩ : UInt8).toNat : Int)
theorem low8_conv (w : World) (x : Reg) : (convert 22 5 (u32v x)).run Tryd.prog w = .ok (.int .u8 (low8 x)) w := u8v_conv x w
/-- Four octets as a value. -/
def octsV (s : Reg) : Value := .agg #[.int .u8 (low8 s), .int .u8 (low8 (s >>> 8)), .int .u8 (low8 (s >>> 16)), .int .u8 (low8 (s >>> 24))]

section
attribute [-go_sem] u8v_conv
attribute [local go_sem] low8_conv
set_option maxHeartbeats 400000 in
theorem octets_any (s : Reg) (w : World) :
    Calls Tryd.prog 22 #[u32v s] w fun e w' => e = .returned (octsV s) ∧ Below w.heap.size w w' := by
  go_enter Tryd.func22, Tryd.ntmps22
  go_wp2
  exact bodyPost_ret (v := octsV s) (by simp [results, Tryd.results22, go_sem, octsV]) rfl ⟨rfl, by (repeat (first | with_reducible exact Below.refl _ _ | with_reducible assumption | with_reducible refine Below.drew ?_ | with_reducible refine bl_alloc ?_ _ | with_reducible refine bl_call ?_ (by assumption) | (focus (with_reducible refine Below.setCell ?_ ?_ _; rotate_left; focus (first | omega | (simp <;> omega)))) | fail))⟩
end
end Go.Proofs.YthkccpemgmpadaaDoor.C

namespace Go.Proofs.YthkccpemgmpadaaDoor.C
set_option maxRecDepth 100000
open Go.RowKit

theorem own_fresh (w : World) (base g : Nat) (e : TypeId) (size c : Nat) (cs : Array Value) (hg : g = w.heap.size) (hb : base ≤ w.heap.size) (hc : c ≤ maxLen) (hs : cs.size = c * size) :
    (w.alloc (.cells cs e)).ownsRow base e size (.slice (some ⟨g, 0, none⟩) 0 c) 0 [] := by
  subst hg
  exact ⟨by simp, .inr ⟨w.heap.size, c, cs, rfl, hb, heap_alloc_new w _, Nat.zero_le _, hc, hs, by simp⟩⟩
theorem own_drew {w : World} {base : Nat} {e : TypeId} {size : Nat} {v : Value} {n : Nat} {xs : List Value} (h : w.ownsRow base e size v n xs) : w.drew.ownsRow base e size v n xs := h
theorem own_base {w : World} {base : Nat} {e : TypeId} {size : Nat} {v : Value} {n : Nat} {xs : List Value} (h : w.ownsRow base e size v n xs) : ∀ k, v.ownBlock = some k → base ≤ k := by
  intro k hk
  rcases h.2 with ⟨rfl, _⟩ | ⟨g, cap, cur, rfl, hb, _⟩
  · simp [Value.ownBlock] at hk
  · simp [Value.ownBlock] at hk; omega
theorem info5 : (Tryd.prog.info? 5).map (fun i => (i.zero, i.size, i.bytes)) = some (some (.int .u8 0), 1, 1) := by kernel_rfl

set_option maxHeartbeats 400000 in
theorem bclone0 (lo : Nat) (v : Value) (l : List UInt8) (w : World) (h : Bs lo w.heap.size w v l) (hL : l.length ≤ 1000000) :
    Calls Tryd.prog 21 #[v] w fun e w' => ∃ v', e = .returned v' ∧ w'.ownsRow w.heap.size 5 1 v' l.length (l.map u8v) ∧ Below w.heap.size w w' := by
  obtain ⟨i0, hi0, hz0, hz1, hz2⟩ := info_parts info5
  have h' := h
  obtain ⟨A, c, rfl, h1, h2, h3⟩ := h'
  have hs := h.src
  clear h h3
  have q22 : ∀ (w : World) (a : Option Addr) (n c : Nat), (binOp .eql 31 (.slice a n c) (.slice none 0 0)).run Tryd.prog w = .ok (.bool a.isNone) w := fun w a n c => Lib.run_eql_slice_nil w _ _ a n c 0 0 Tryd.underlying31
  obtain ⟨xs, hxs⟩ : ∃ xs, xs = l.map u8v := ⟨_, rfl⟩
  have hxl : xs.length = l.length := by rw [hxs]; simp
  have hx1 : ∀ u ∈ xs, u.oneCell' = true := by rw [hxs]; exact u8s_one l
  rw [← hxs] at hs ⊢
  clear hxs
  generalize l.length = n at *
  have HS := hs.2
  have HX := Lib.hid hxl; have HX1 := Lib.hid hx1; clear hs hxl hx1
  have hb1 : 0 + n ≤ maxLen := by simp only [maxLen]; omega
  have hb2 : (0 + n) * 1 ≤ 140737488355328 := by omega
  rcases A with _ | ad
  · have hn0 : n = 0 := by
      rcases Nat.eq_zero_or_pos n with h0 | h0
      · exact h0
      · obtain ⟨ad, e, _⟩ := HS h0; cases e
    subst hn0
    obtain rfl : xs = [] := List.eq_nil_of_length_eq_zero HX.out
    go_enter Tryd.func21, Tryd.ntmps21
    go_wp2
    go_ret
    exact ⟨_, rfl, World.ownsRow_nil _ _ _ _, Below.refl _ _⟩
  · have hz : w.heap.size ≤ (w.alloc (.cells #[] 5)).heap.size := by simp
    have HZ := Lib.hid hz; clear hz
    go_enter Tryd.func21, Tryd.ntmps21
    go_wp2_with (first
      | (at_builtin
         refine wpList_app _ rfl (.tmp 5) (.tmp 6) 31 rfl w.heap.size 5 i0 _ 1 1 Tryd.underlying31 hi0 hz0 hz1 hz2 rfl (Nat.succ_pos _) _ 0 [] rfl (World.ownsRow_lit w #[] 0 (Nat.le_refl _) (Nat.zero_le _) rfl) (some ad) n c xs rfl (HX.out.trans (Nat.mul_one _).symm) (HS.below ((Below.refl _ _).alloc (Nat.le_refl _) _)) HX1.out hb1 hb2 HZ.out ?_
         intro v' w1 hown hg))
    go_ret
    refine ⟨_, rfl, by simpa using hown, ?_⟩
    refine bl_grown ((Below.refl _ _).alloc (Nat.le_refl _) _) hg ?_
    intro k hk
    simp [Act.eval, Value.ownBlock] at hk
    omega

theorem bclone (lo : Nat) (v : Value) (l : List UInt8) (w : World) (h : Bs lo w.heap.size w v l) (hL : l.length ≤ 1000000) :
    Calls Tryd.prog 21 #[v] w fun e w' => ∃ A' c', e = .returned (.slice A' l.length c') ∧ w'.ownsRow w.heap.size 5 1 (.slice A' l.length c') l.length (l.map u8v) ∧ Below w.heap.size w w' :=
  (bclone0 lo v l w h hL).mono fun e w' ⟨v', he, ho, hb⟩ => by
    obtain ⟨A', c', rfl⟩ := ownsRow_form ho
    exact ⟨A', c', he, ho, hb⟩

set_option maxHeartbeats 1000000 in
theorem grow_any (n : Nat) (w : World) (h0 : 0 < n) (hn : n ≤ 1000000) :
    Calls Tryd.prog 27 #[.slice none 0 0, .int .i64 n] w fun e w' => ∃ A c, e = .returned (.slice A 0 c) ∧ w'.ownsRow w.heap.size 5 1 (.slice A 0 c) 0 [] ∧ Below w.heap.size w w' := by
  obtain ⟨i0, hi0, hz0, hz1, hz2⟩ := info_parts info5
  have hrun := fun W => Lib.run_append_nil_zeros (P := Tryd.prog) W 31 3 31 5 i0 _ .i64 .i64 Tryd.underlying31 Tryd.underlying3 hi0 hz0 n h0 (by rw [hz1]; omega) (by omega) (by rw [hz2]; omega)
  have hge := grownCap_ge w n 0 5
  have hle := grownCap_le_maxLen w n 0 5 (by simp [maxLen]; omega)
  have y0 : (0 : Int) < (n : Int) := by omega
  have y1 : (0 : Int) ≤ (n : Int) := by omega
  replace hrun := hide hrun
  go_enter Tryd.func27, Tryd.ntmps27
  go_wp2_with (first
    | (at_builtin
       refine Lib.wpList_append_run _ rfl (.tmp 20) (.tmp 21) 31 3 rfl _ _ rfl rfl _ _ (unhide hrun _) ?_)
    | fail)
  go_ret
  refine ⟨_, _, rfl, own_drew (own_fresh _ _ _ 5 1 _ _ rfl (Nat.le_refl _) hle ?_), by (repeat (first | with_reducible exact Below.refl _ _ | with_reducible assumption | with_reducible refine Below.drew ?_ | with_reducible refine bl_alloc ?_ _ | with_reducible refine bl_call ?_ (by assumption) | (focus (with_reducible refine Below.setCell ?_ ?_ _; rotate_left; focus (first | omega | (simp <;> omega)))) | fail))⟩
  simp [Builtin.zeroCells]
  omega
end Go.Proofs.YthkccpemgmpadaaDoor.C

namespace Go.Proofs.YthkccpemgmpadaaDoor.C
set_option maxRecDepth 100000
open Go.RowKit

/-- The cells of a slice of texts. -/
def Lists (lo : Nat) (w : World) (g : Nat) (Ls : List (List UInt8)) : Prop :=
  ∀ k (hk : k < Ls.length), ∃ A c, w.cell? ⟨g, k, none⟩ = some (.slice A Ls[k].length c) ∧ Bs lo w.heap.size w (.slice A Ls[k].length c) Ls[k]

theorem take_flat {Ls : List (List UInt8)} {k : Nat} (hk : k < Ls.length) : (Ls.take (k + 1)).flatten = (Ls.take k).flatten ++ Ls[k] := by
  have h : Ls.take (k + 1) = Ls.take k ++ [Ls[k]] := by
    rw [List.take_add_one, List.getElem?_eq_getElem hk]; rfl
  rw [h, List.flatten_append, List.flatten_singleton]
/-- How many there are in the first lists. -/
def upto (Ls : List (List UInt8)) (k : Nat) : Nat := (Ls.take k).flatten.length
theorem upto_succ {Ls : List (List UInt8)} {k : Nat} (hk : k < Ls.length) : upto Ls (k + 1) = upto Ls k + Ls[k].length := by
  unfold upto; rw [take_flat hk, List.length_append]
/-- All of the first lists. -/
def cat (Ls : List (List UInt8)) (k : Nat) : List UInt8 := (Ls.take k).flatten
theorem cat_succ {Ls : List (List UInt8)} {k : Nat} (hk : k < Ls.length) : cat Ls (k + 1) = cat Ls k ++ Ls[k] := take_flat hk
theorem upto_cat (Ls : List (List UInt8)) (k : Nat) : (cat Ls k).length = upto Ls k := rfl
theorem flat_le (Ls : List (List UInt8)) (k : Nat) : upto Ls k ≤ upto Ls Ls.length := by
  unfold upto
  rw [List.take_length]
  have h : Ls.flatten = (Ls.take k).flatten ++ (Ls.drop k).flatten := by rw [← List.flatten_append, List.take_append_drop]
  rw [h]; simp

set_option maxHeartbeats 2000000 in
theorem concat_any (lo g : Nat) (Ls : List (List UInt8)) (w : World) (h : Lists lo w g Ls) (hg : g < w.heap.size) (hn : Ls.length ≤ 1000) (h0 : 0 < upto Ls Ls.length) (hL : upto Ls Ls.length ≤ 1000000) :
    Calls Tryd.prog 17 #[.slice (some ⟨g, 0, none⟩) Ls.length Ls.length] w fun e w' => ∃ A c, e = .returned (.slice A (upto Ls Ls.length) c) ∧ w'.ownsRow w.heap.size 5 1 (.slice A (upto Ls Ls.length) c) (upto Ls Ls.length) ((cat Ls Ls.length).map u8v) ∧ Below w.heap.size w w' := by
  obtain ⟨i0, hi0, hz0, hz1, hz2⟩ := info_parts info5
  obtain ⟨n, hn'⟩ : ∃ n, n = Ls.length := ⟨_, rfl⟩
  have hfl := flat_le Ls
  have hgrow := fun W => grow_any (upto Ls Ls.length) W h0 hL
  rw [← hn'] at hfl hgrow hL h0 ⊢
  replace h := hide h; replace hn' := hide hn'; replace hfl := hide hfl; replace hgrow := hide hgrow
  have hn2 : n ≤ 1000 := by rw [unhide hn']; exact hn
  clear hn
  go_enter Tryd.func17, Tryd.ntmps17
  go_wp2_with fail
  go_loopw [3, 11] (fun s3 s11 wr => ∃ k : Nat, k ≤ n ∧ s11 = .int .i64 k ∧ s3 = .int .i64 (upto Ls k : Nat) ∧ w = wr) (fun _ i _ => n - (intOf i).toNat)
  case atStart => exact ⟨0, by omega, rfl, rfl, rfl⟩
  case round =>
    obtain ⟨k, hk, rfl, rfl, rfl⟩ := hrel
    by_cases hlt : k < n
    · have hlt' : k < Ls.length := by rw [← unhide hn']; exact hlt
      obtain ⟨A, c, hc, _⟩ := unhide h k hlt'
      have ha : upto Ls (k + 1) = upto Ls k + Ls[k].length := upto_succ hlt'
      have hb := unhide hfl (k + 1)
      rw [ha] at hb
      generalize ha1 : upto Ls k = a at *
      generalize Ls[k].length = b at *
      replace ha := hide ha
      have w1 : (0 : Int) ≤ (a : Int) + (b : Int) := by omega
      have w2 : (a : Int) + (b : Int) ≤ 1000000 := by omega
      go_wp2_with fail
      go_roundw
      case rel => exact ⟨k + 1, by omega, by go_num, by rw [unhide ha]; go_num, by simp⟩
      case measure => simp [intOf]; omega
    · obtain rfl : k = n := by omega
      have hgz : Hid (g < w.heap.size) := hg
      go_wp2_with (go_at_call 27; refine (unhide hgrow _).mono ?_; rintro e w1 ⟨A1, c1, rfl, hown, hb1⟩)
      replace hown := hide hown; replace hb1 := hide hb1
      go_loopw [6, 27] (fun s6 s27 wx => ∃ (j : Nat) (A2 : Option Addr) (c2 : Nat), j ≤ k ∧ s27 = .int .i64 j ∧ s6 = .slice A2 (upto Ls j) c2 ∧ Hid (wx.ownsRow w.heap.size 5 1 (.slice A2 (upto Ls j) c2) (upto Ls j) ((cat Ls j).map u8v)) ∧ Hid (Below w.heap.size w wx)) (fun _ i _ => k - (intOf i).toNat)
      case atStart => exact ⟨0, A1, c1, by omega, rfl, rfl, hide (unhide hown), hb1⟩
      case round =>
        obtain ⟨j, A2, c2, hj, rfl, rfl, o2, b2⟩ := hrel
        by_cases hlt2 : j < k
        · have hlt' : j < Ls.length := by rw [← unhide hn']; exact hlt2
          obtain ⟨A, c, hc, hx⟩ := unhide h j hlt'
          have ha : cat Ls (j + 1) = cat Ls j ++ Ls[j] := cat_succ hlt'
          have ha' : upto Ls (j + 1) = upto Ls j + Ls[j].length := upto_succ hlt'
          have hb := unhide hfl (j + 1)
          rw [ha'] at hb
          have hsrc := SrcOk.below hx.src.2 (unhide b2)
          have hc' := ((unhide b2).cell (p := ⟨g, j, none⟩) hg).trans hc
          have hgx : g < wr.heap.size := Nat.lt_of_lt_of_le hg (unhide b2).size
          have hnl : (Ls[j].map u8v).length = Ls[j].length * 1 := by simp
          have hno := u8s_one Ls[j]
          have hsz := (unhide b2).size
          generalize Ls[j] = N at *
          generalize upto Ls j = m at *
          have u1 : m + N.length ≤ maxLen := by simp only [maxLen]; omega
          have u2 : (m + N.length) * 1 ≤ 140737488355328 := by omega
          replace ha := hide ha; replace hsrc := hide hsrc; replace hnl := hide hnl; replace hno := hide hno; replace u1 := hide u1; replace u2 := hide u2; replace hb := hide hb
          replace ha' := hide ha'
          clear hc hx
          go_wp2_with (first
            | (at_builtin
               refine wpList_app _ rfl (.tmp 31) (.tmp 32) 31 rfl w.heap.size 5 i0 _ 1 1 Tryd.underlying31 hi0 hz0 hz1 hz2 rfl (Nat.succ_pos _) _ m ((cat Ls j).map u8v) rfl (unhide o2) A N.length c (N.map u8v) rfl (unhide hnl) (unhide hsrc) (unhide hno) (unhide u1) (unhide u2) hsz ?_
               intro v' w2 hown2 hg2
               obtain ⟨A3, c3, rfl⟩ := ownsRow_form hown2))
          have hal : (cat Ls j).map u8v ++ N.map u8v = (cat Ls (j + 1)).map u8v := by rw [unhide ha, List.map_append]
          rw [hal, ← unhide ha'] at hown2
          go_roundw
          case rel => exact ⟨j + 1, A3, c3, by omega, by go_num, by rw [unhide ha'], hide hown2, hide (bl_grown (unhide b2) hg2 (own_base (unhide o2)))⟩
          case measure => simp [intOf]; omega
        · obtain rfl : j = k := by omega
          go_wp2_with fail
          go_ret
          exact ⟨A2, c2, rfl, unhide o2, unhide b2⟩
end Go.Proofs.YthkccpemgmpadaaDoor.C

namespace Go.Proofs.YthkccpemgmpadaaDoor.C
set_option maxRecDepth 100000
open Go.RowKit

theorem low8_u8v (x : Reg) : Value.int .u8 (low8 x) = u8v ⟨x.setWidth 8⟩ := rfl

theorem concat2 (lo g : Nat) (A A' : Option Addr) (c c' m : Nat) (a b : List UInt8) (w : World) (hc0 : w.cell? ⟨g, 0, none⟩ = some (.slice A a.length c)) (hc1 : w.cell? ⟨g, 1, none⟩ = some (.slice A' m c')) (hm : b.length = m) (h0 : 0 < m)
    (ha : Bs lo w.heap.size w (.slice A a.length c) a) (hb : Bs lo w.heap.size w (.slice A' m c') b) (hL : a.length + m ≤ 1000000) :
    Calls Tryd.prog 17 #[.slice (some ⟨g, 0, none⟩) 2 2] w fun e w' => ∃ A c, e = .returned (.slice A (a.length + m) c) ∧ w'.ownsRow w.heap.size 5 1 (.slice A (a.length + m) c) (a.length + m) ((a ++ b).map u8v) ∧ Below w.heap.size w w' := by
  subst hm
  have hu : upto [a, b] [a, b].length = a.length + b.length := by simp [upto]
  have hca : cat [a, b] [a, b].length = a ++ b := by simp [cat]
  have h := concat_any lo g [a, b] w (fun k hk => by
    match k, hk with
    | 0, _ => exact ⟨A, c, hc0, ha⟩
    | 1, _ => exact ⟨A', c', hc1, hb⟩) (World.block_lt_of_cell? w _ hc0) (by simp) (by rw [hu]; omega) (by rw [hu]; exact hL)
  rw [hu, hca] at h
  exact h

theorem octs_bs {w : World} {g : Nat} {s : Reg} {t : TypeId} (h : Blk w g t #[.int .u8 (low8 s), .int .u8 (low8 (s >>> 8)), .int .u8 (low8 (s >>> 16)), .int .u8 (low8 (s >>> 24))]) (lo : Nat) (hlo : lo ≤ g) : Bs lo w.heap.size w (.slice (some ⟨g, 0, none⟩) 4 4) (octs s) := by
  refine ⟨_, 4, rfl, by simp [octs], by omega, fun _ => ⟨g, 0, rfl, hlo, h.lt, fun i hi => ?_⟩⟩
  rw [h.cell]
  match i, hi with
  | 0, _ => rfl
  | 1, _ => rfl
  | 2, _ => rfl
  | 3, _ => rfl

set_option maxHeartbeats 1000000 in
theorem seal_any (lo : Nat) (v : Value) (l : List UInt8) (w : World) (h : Bs lo w.heap.size w v l) (hL : l.length ≤ 900000) :
    Calls Tryd.prog 14 #[v] w fun e w' => ∃ A c, e = .returned (.slice A (l.length + 4) c) ∧ w'.ownsRow w.heap.size 5 1 (.slice A (l.length + 4) c) (l.length + 4) ((l ++ octs (sumR l)).map u8v) ∧ Below w.heap.size w w' := by
  have hsum := fun W (hb : Below w.heap.size w W) => sum_any lo w.heap.size v l W (h.below hb (Nat.le_refl _))
  obtain ⟨A, c, rfl, h1, h2, _⟩ := id h
  replace hsum := hide hsum
  replace h := hide h
  go_enter Tryd.func14, Tryd.ntmps14
  go_wp2_with (first
    | (go_at_call 23; refine (unhide hsum _ (by (repeat (first | with_reducible exact Below.refl _ _ | with_reducible assumption | with_reducible refine Below.drew ?_ | with_reducible refine bl_alloc ?_ _ | with_reducible refine bl_call ?_ (by assumption) | (focus (with_reducible refine Below.setCell ?_ ?_ _; rotate_left; focus (first | omega | (simp <;> omega)))) | fail)))).mono ?_; rintro e w' ⟨rfl, rfl⟩)
    | (go_at_call 22; refine (octets_any _ _).mono ?_; rintro e w1 ⟨rfl, hb1⟩; obtain ⟨hc1, hf1⟩ := bcell hb1; have hz1 := hb1.size; (try simp at hz1); unfold octsV)
    | fail)
  have hsz := hb1.size
  have G1 : Blk (w1.alloc (.cells #[.int .u8 (low8 (sumR l)), .int .u8 (low8 (sumR l >>> 8)), .int .u8 (low8 (sumR l >>> 16)), .int .u8 (low8 (sumR l >>> 24))] 54)) w1.heap.size 54 _ := Blk.new rfl
  have G2 := G1.alloc (.cells #[.slice A l.length c, .slice (some ⟨w1.heap.size, 0, none⟩) 4 4] 31)
  have G3 : Blk ((w1.alloc (.cells #[.int .u8 (low8 (sumR l)), .int .u8 (low8 (sumR l >>> 8)), .int .u8 (low8 (sumR l >>> 16)), .int .u8 (low8 (sumR l >>> 24))] 54)).alloc (.cells #[.slice A l.length c, .slice (some ⟨w1.heap.size, 0, none⟩) 4 4] 31)) (w1.heap.size + 1) 31 _ := Blk.new (by simp)
  have hb2 : Below w.heap.size w ((w1.alloc (.cells #[.int .u8 (low8 (sumR l)), .int .u8 (low8 (sumR l >>> 8)), .int .u8 (low8 (sumR l >>> 16)), .int .u8 (low8 (sumR l >>> 24))] 54)).alloc (.cells #[.slice A l.length c, .slice (some ⟨w1.heap.size, 0, none⟩) 4 4] 31)) := bl_alloc (bl_alloc hb1 _) _
  have K := concat2 0 (w1.heap.size + 1) A (some ⟨w1.heap.size, 0, none⟩) c 4 4 l (octs (sumR l)) _ (by rw [G3.cell]; rfl) (by rw [G3.cell]; rfl) rfl (by omega) (((unhide h).below hb2 (Nat.le_refl _)).mono (Nat.zero_le _) hb2.size) (octs_bs G2 0 (Nat.zero_le _)) (by omega)
  refine K.mono ?_
  rintro e w2 ⟨A2, c2, rfl, hown, hb3⟩
  have hb4 := bl_call hb2 hb3
  replace hown := hide (ownsRow_mono hown hb2.size)
  clear G1 G2 G3 K hb2 hb3
  go_wp2
  go_ret
  exact ⟨A2, c2, rfl, unhide hown, hb4⟩
end Go.Proofs.YthkccpemgmpadaaDoor.C

namespace Go.Proofs.YthkccpemgmpadaaDoor.C
set_option maxRecDepth 100000
open Go.RowKit

theorem u8v_xor (t : TypeId) (x y : UInt8) : binOp .xor t (u8v x) (u8v y) = pure (u8v (x ^^^ y)) := by
  unfold u8v
  rw [binOp_xor]
  simp only [Op.intBits]
  have h : IntKind.u8.wrap ((BitVec.ofInt 8 (x.toNat : Int) ^^^ BitVec.ofInt 8 (y.toNat : Int)).toNat : Int) = ((x ^^^ y).toNat : Int) := by
    have h1 := u8_xor_nat x.toNat y.toNat x.toNat_lt y.toNat_lt
    have h2 : (x ^^^ y).toNat = x.toNat ^^^ y.toNat := by simp
    rw [h2]
    exact h1
  exact congrArg (fun z => (pure (Value.int .u8 z) : Sem Value)) h
theorem run_store_u8v (P : Program) (w : World) (a : Addr) (m : Mode) (x : UInt8) : (store a (u8v x) m).run P w = stored P w a (u8v x) m := run_store P w a _ m rfl

theorem eqGuard_u32 (op : BinOp) (t : TypeId) (x y : Operand) (a b : Reg) : eqGuard op t x y (u32v a) (u32v b) = pure () := by cases op <;> rfl
/-- An octet's number. -/
def n8 (x : UInt8) : Int := (x.toNat : Int)
theorem n8_bits (x y : UInt8) : bits .xor .u8 (n8 x) (n8 y) = n8 (x ^^^ y) := by
  have h2 : (x ^^^ y).toNat = x.toNat ^^^ y.toNat := by simp
  unfold n8
  rw [h2]
  exact u8_xor_nat x.toNat y.toNat x.toNat_lt y.toNat_lt

theorem far_cell {w : World} {g g1 o1 : Nat} {v : Value} (hne : g1 ≠ g) (h : w.cell? ⟨g1, o1, none⟩ = some v) (k : Nat) (u : Value) : (w.setCell ⟨g, k, none⟩ u).drew.cell? ⟨g1, o1, none⟩ = some v :=
  (World.cell?_setCell_other w ⟨g, k, none⟩ ⟨g1, o1, none⟩ u (fun e => hne (congrArg Addr.block e).symm)).trans h
/-- The cells of a row of which 'k' are laid. -/
def laid (l : List UInt8) (k : Nat) : Array Value := ((l.take k).map u8v ++ List.replicate (l.length - k) (u8v 0)).toArray
theorem laid_size (l : List UInt8) (k : Nat) (h : k ≤ l.length) : (laid l k).size = l.length := by
  simp [laid]; omega
theorem laid_set (l : List UInt8) (k : Nat) (h : k < l.length) : (laid l k).setIfInBounds k (u8v l[k]) = laid l (k + 1) := by
  unfold laid
  rw [List.setIfInBounds_toArray]
  congr 1
  have h1 : ((l.take k).map u8v).length = k := by simp; omega
  rw [List.set_append_right _ _ (by omega), h1, Nat.sub_self]
  have h2 : l.length - k = (l.length - (k + 1)) + 1 := by omega
  rw [h2, List.replicate_succ, List.set_cons_zero, take_snoc h, List.map_append, List.append_assoc]
  rfl
theorem laid_all {w : World} {g : Nat} {l : List UInt8} (lo : Nat) (h : Blk w g 5 (laid l l.length)) (hlo : lo ≤ g) (hl : l.length ≤ 9223372036854775807) : Bs lo w.heap.size w (.slice (some ⟨g, 0, none⟩) l.length l.length) l := by
  refine ⟨_, _, rfl, Nat.le_refl _, hl, fun _ => ⟨g, 0, rfl, hlo, h.lt, fun i hi => ?_⟩⟩
  rw [h.cell]
  simp [laid, hi]
/-- Three texts, exclusive or. -/
def xor3 (a b c : List UInt8) : List UInt8 := List.zipWith (fun x y => x ^^^ y) (List.zipWith (fun x y => x ^^^ y) a b) c
theorem xor3_len {a b c : List UInt8} (hb : a.length = b.length) (hc : a.length = c.length) : (xor3 a b c).length = a.length := by
  simp [xor3]; omega
theorem xor3_get {a b c : List UInt8} (h1 : a.length = b.length) (h2 : a.length = c.length) {k : Nat} (h : k < a.length) : (xor3 a b c).getD k 0 = a.getD k 0 ^^^ b.getD k 0 ^^^ c.getD k 0 := by
  have hx := xor3_len h1 h2
  rw [List.getD_eq_getElem?_getD, List.getD_eq_getElem?_getD, List.getD_eq_getElem?_getD, List.getD_eq_getElem?_getD, List.getElem?_eq_getElem (show k < (xor3 a b c).length by omega), List.getElem?_eq_getElem h,
    List.getElem?_eq_getElem (show k < b.length by omega), List.getElem?_eq_getElem (show k < c.length by omega)]
  simp [xor3]
theorem Bs.openN {lo hi n : Nat} {w : World} {v : Value} {l : List UInt8} (h : Bs lo hi w v l) (hn : l.length = n) :
    ∃ A c, v = .slice A n c ∧ n ≤ c ∧ c ≤ 9223372036854775807 ∧ ∀ i, i < n → ∃ b off, A = some ⟨b, off, none⟩ ∧ lo ≤ b ∧ b < hi ∧ w.cell? ⟨b, off + i, none⟩ = some (u8v (l.getD i 0)) := by
  subst hn
  obtain ⟨A, c, rfl, h1, h2, h3⟩ := h
  refine ⟨A, c, rfl, h1, h2, fun i hi => ?_⟩
  obtain ⟨b, off, rfl, g1, g2, g3⟩ := h3 (by omega)
  refine ⟨b, off, rfl, g1, g2, ?_⟩
  rw [g3 i hi]
  simp [List.getD_eq_getElem?_getD, hi]
theorem laid_put {l : List UInt8} {n k : Nat} (hn : l.length = n) (h : k < n) : (laid l k).setIfInBounds k (u8v (l.getD k 0)) = laid l (k + 1) := by
  subst hn
  rw [← laid_set l k h]
  simp [List.getD_eq_getElem?_getD, h]
theorem laid_made (l : List UInt8) (n : Nat) (h : n = l.length) : madeCells (Value.int .u8 0).cells (n * 1) = laid l 0 := by
  subst h
  apply Array.ext'
  have hz : (madeCells (Value.int .u8 0).cells (l.length * 1)).toList = List.replicate (l.length * 1) (.int .u8 0) := toList_madeCells_one _ _
  rw [hz]
  simp [laid, u8v]

section
attribute [local go_sem] u32v_xor u32v_eql n8_bits eqGuard_u32
end
end Go.Proofs.YthkccpemgmpadaaDoor.C

namespace Go.Proofs.YthkccpemgmpadaaDoor.C
set_option maxRecDepth 100000
open Go.RowKit

theorem eqInt5 (w : World) (d : Nat) (a b : Int) : (Op.equalIn (d + 1) 5 (.int .u8 a) (.int .u8 b)).run Tryd.prog w = .ok (a == b) w := run_equalIn_int w d 5 .u8 .u8 a b Tryd.underlying5
theorem part5_0 (w : World) (a b c d : Value) : (part 5 #[a, b, c, d] 0).run Tryd.prog w = .ok a w := by kernel_rfl
theorem part5_1 (w : World) (a b c d : Value) : (part 5 #[a, b, c, d] 1).run Tryd.prog w = .ok b w := by kernel_rfl
theorem part5_2 (w : World) (a b c d : Value) : (part 5 #[a, b, c, d] 2).run Tryd.prog w = .ok c w := by kernel_rfl
theorem part5_3 (w : World) (a b c d : Value) : (part 5 #[a, b, c, d] 3).run Tryd.prog w = .ok d w := by kernel_rfl
theorem size5 (w : World) : (sizeOf 5).run Tryd.prog w = .ok 1 w := by kernel_rfl
/-- Are the four octets the same? -/
def same4 (a b c d a' b' c' d' : Int) : Bool := a == a' && b == b' && c == c' && d == d'
theorem eq_arr4 (w : World) (a b c d a' b' c' d' : Int) :
    (Op.equalIn 10000 54 (.agg #[.int .u8 a, .int .u8 b, .int .u8 c, .int .u8 d]) (.agg #[.int .u8 a', .int .u8 b', .int .u8 c', .int .u8 d'])).run Tryd.prog w = .ok (same4 a b c d a' b' c' d') w := by
  rw [show (10000 : Nat) = 9998 + 1 + 1 from rfl, Op.equalIn]
  simp only [Sem.run_bind, run_underlying Tryd.underlying54, Result.andThen_ok, size5]
  simp only [Std.Legacy.Range.forIn_eq_forIn_range', Std.Legacy.Range.size, List.range', Nat.sub_zero, Nat.add_one_sub_one, Nat.div_one, List.forIn_cons, List.forIn_nil, Sem.run_bind, Nat.mul_one, part5_0, Result.andThen_ok, Nat.zero_add, Nat.reduceAdd, eqInt5]
  unfold same4
  cases h0 : a == a' <;> cases h1 : b == b' <;> cases h2 : c == c' <;> cases h3 : d == d' <;> simp [part5_1, part5_2, part5_3, eqInt5, h1, h2, h3, Result.andThen]

theorem neq_arr4 (w : World) (a b c d a' b' c' d' : Int) :
    (binOp .neq 54 (.agg #[.int .u8 a, .int .u8 b, .int .u8 c, .int .u8 d]) (.agg #[.int .u8 a', .int .u8 b', .int .u8 c', .int .u8 d'])).run Tryd.prog w = .ok (.bool (!same4 a b c d a' b' c' d')) w := by
  rw [run_neq_struct, eq_arr4]
  rfl
theorem guard36 : Tryd.prog.eqGuardType Tryd.prog.depth 54 = false := by kernel_rfl
theorem arr36 (w : World) (a : Option Addr) (c : Nat) : (Instr.arrayAt 54 (.slice a 4 c)).run Tryd.prog w = .ok (.pointer a) w := run_arrayAt (P := Tryd.prog) w 54 5 4 a 4 c Tryd.underlying54 (Nat.le_refl _)

/-- Is the sum behind the first 'm' octets right? -/
def okO (l : List UInt8) (m : Nat) : Bool :=
  same4 (n8 (l.getD m 0)) (n8 (l.getD (m + 1) 0)) (n8 (l.getD (m + 2) 0)) (n8 (l.getD (m + 3) 0)) (low8 (sumR (l.take m))) (low8 (sumR (l.take m) >>> 8)) (low8 (sumR (l.take m) >>> 16)) (low8 (sumR (l.take m) >>> 24))
theorem n8_inj {x y : UInt8} : n8 x = n8 y ↔ x = y := by
  unfold n8
  constructor
  · intro h; exact UInt8.toNat_inj.1 (by omega)
  · intro h; rw [h]
theorem okO_iff {l : List UInt8} {m : Nat} (h : l.length = m + 4) : okO l m = true ↔ l.drop m = octs (sumR (l.take m)) := by
  have h1 : l.drop m = [l.getD m 0, l.getD (m + 1) 0, l.getD (m + 2) 0, l.getD (m + 3) 0] := by
    apply List.ext_getElem
    · simp; omega
    · intro i hi hj
      have hi' : i < 4 := by simpa using hj
      match i, hi' with
      | 0, _ => simp [List.getD_eq_getElem?_getD, show m < l.length by omega]
      | 1, _ => simp [List.getD_eq_getElem?_getD, show m + 1 < l.length by omega]
      | 2, _ => simp [List.getD_eq_getElem?_getD, show m + 2 < l.length by omega]
      | 3, _ => simp [List.getD_eq_getElem?_getD, show m + 3 < l.length by omega]
  rw [h1]
  unfold okO same4 octs
  generalize sumR (l.take m) = s at *
  simp only [Bool.and_eq_true, beq_iff_eq, List.cons.injEq, and_true]
  have e : ∀ (x : UInt8) (r : Reg), n8 x = low8 r ↔ x = ⟨r.setWidth 8⟩ := fun x r => n8_inj (x := x) (y := ⟨r.setWidth 8⟩)
  rw [e, e, e, e, and_assoc, and_assoc]
end Go.Proofs.YthkccpemgmpadaaDoor.C

namespace Go.Proofs.YthkccpemgmpadaaDoor.C
set_option maxRecDepth 100000
open Go.RowKit

theorem below_drewN {B : Nat} {a w : World} (h : Below B a w) (n : Nat) : Below B a (w.drewN n) := ⟨h.os, h.tape, h.output, h.size, h.block⟩

theorem open_short (A : Option Addr) (n c : Nat) (w : World) (h : n < 4) :
    Calls Tryd.prog 13 #[.slice A n c] w fun e w' => e = .returned (.tuple #[.slice none 0 0, .int .i64 2]) ∧ w = w' := by
  have h' : (n : Int) < 4 := by omega
  go_enter Tryd.func13, Tryd.ntmps13
  go_wp2
  go_ret2
  exact ⟨rfl, rfl⟩

theorem elem23 : Tryd.prog.underlying 31 = some (.slice (Tryd.prog.elem 31)) := by kernel_rfl
theorem size5e : ∀ W, (sizeOf (Tryd.prog.elem 31)).run Tryd.prog W = .ok 1 W := fun W => by kernel_rfl
theorem add_none' (b off i : Nat) : (⟨b, off, none⟩ : Addr).add i = ⟨b, off + i, none⟩ := by
  unfold Addr.add
  split
  · rename_i h; subst h; rfl
  · rfl
theorem slice_h (b off n c j : Nat) (hj : j ≤ c) (W : World) :
    (Instr.slice 31 (.slice (some ⟨b, off, none⟩) n c) none (some (.int .i64 (j : Int))) none).run Tryd.prog W = .ok (.slice (some ⟨b, off, none⟩) j c) W := by
  rw [run_slice_h (P := Tryd.prog) W 31 _ n c elem23 .i64 j (by omega) (by omega), size5e]
  simp only [Result.andThen, sliced, Int.toNat_natCast, Nat.sub_zero, Nat.zero_mul, Option.map_some, add_none', Nat.add_zero, ite_self]
theorem slice_l (b off n c i : Nat) (hi : i ≤ n) (hc : i < c) (W : World) :
    (Instr.slice 31 (.slice (some ⟨b, off, none⟩) n c) (some (.int .i64 (i : Int))) none none).run Tryd.prog W = .ok (.slice (some ⟨b, off + i, none⟩) (n - i) (c - i)) W := by
  rw [run_slice_l (P := Tryd.prog) W 31 _ n c elem23 .i64 i (by omega) (by omega), size5e]
  simp only [Result.andThen, sliced, Int.toNat_natCast, Nat.mul_one, Option.map_some, add_none', if_neg (show ¬ c = i by omega)]
section
attribute [local go_sem] eq_arr4 arr36
set_option maxHeartbeats 2000000 in
theorem open_any (lo m : Nat) (v : Value) (l : List UInt8) (w : World) (h : Bs lo w.heap.size w v l) (hm : l.length = m + 4) (hL : m ≤ 900000) :
    Calls Tryd.prog 13 #[v] w fun e w' => ∃ A c er, e = .returned (.tuple #[.slice A (if okO l m then m else 0) c, .int .i64 er]) ∧ er = (if okO l m then 0 else 7) ∧
      w'.ownsRow w.heap.size 5 1 (.slice A (if okO l m then m else 0) c) (if okO l m then m else 0) ((l.take (if okO l m then m else 0)).map u8v) ∧ Below w.heap.size w w' := by
  obtain ⟨A, c, rfl, h1, h2, h3⟩ := h.openN hm
  obtain ⟨b, off, rfl, q1, q2, c0⟩ := h3 m (by omega)
  obtain ⟨_, _, e, _, _, c1⟩ := h3 (m + 1) (by omega); cases e
  obtain ⟨_, _, e, _, _, c2⟩ := h3 (m + 2) (by omega); cases e
  obtain ⟨_, _, e, _, _, c3⟩ := h3 (m + 3) (by omega); cases e
  change w.cell? _ = some (.int .u8 (n8 _)) at c0
  change w.cell? _ = some (.int .u8 (n8 _)) at c1
  change w.cell? _ = some (.int .u8 (n8 _)) at c2
  change w.cell? _ = some (.int .u8 (n8 _)) at c3
  rw [← Nat.add_assoc] at c1 c2 c3
  have hT : Bs lo w.heap.size w (.slice (some ⟨b, off, none⟩) m c) (l.take m) := by
    have hlm : (l.take m).length = m := by simp; omega
    refine ⟨_, c, by rw [hlm], by omega, h2, fun _ => ⟨b, off, rfl, q1, q2, fun i hi => ?_⟩⟩
    obtain ⟨_, _, e, _, _, ci⟩ := h3 i (by omega)
    cases e
    rw [ci]
    have hi' : i < m := by omega
    simp [List.getD_eq_getElem?_getD, show i < l.length by omega]
  have hk : okO l m = same4 (n8 (l.getD m 0)) (n8 (l.getD (m + 1) 0)) (n8 (l.getD (m + 2) 0)) (n8 (l.getD (m + 3) 0)) (low8 (sumR (l.take m))) (low8 (sumR (l.take m) >>> 8)) (low8 (sumR (l.take m) >>> 16)) (low8 (sumR (l.take m) >>> 24)) := rfl
  have hlen : (l.take m).length = m := by simp; omega
  have hsum := sum_any lo w.heap.size _ _ w hT
  have hsum' := fun W (hb : Below w.heap.size w W) => sum_any lo w.heap.size _ _ W (hT.below hb (Nat.le_refl _))
  have hcl := fun W (hb : Below w.heap.size w W) => bclone lo _ _ W ((hT.below hb (Nat.le_refl _)).mono (Nat.le_refl _) hb.size) (by omega)
  rw [hlen] at hcl
  generalize l.getD m 0 = y0 at *
  generalize l.getD (m + 1) 0 = y1 at *
  generalize l.getD (m + 2) 0 = y2 at *
  generalize l.getD (m + 3) 0 = y3 at *
  generalize sumR (l.take m) = s at *
  have g36 := guard36
  have hoct := fun W => octets_any s W
  replace hk := hide hk; replace hsum' := hide hsum'; replace hcl := hide hcl; replace hoct := hide hoct; replace h3 := hide h3
  clear h hT hm hlen hsum
  have i1 : ¬ ((m : Int) + 4 < 4) := by omega
  have hc4 : m + 4 ≤ c := h1
  have sl1 := slice_h b off (m + 4) c m (by omega)
  have sl2 := slice_l b off (m + 4) c m (by omega) (by omega)
  rw [show m + 4 - m = 4 by omega] at sl2
  have wm : IntKind.i64.wrap (m : Int) = (m : Int) := IntWalk.i64_in _ (by omega)
  cases hO : okO l m with
  | false =>
    have hs4 := (unhide hk).symm.trans hO
    replace hO := hide hO
    go_enter Tryd.func13, Tryd.ntmps13
    go_wp2_with fail
    go_quiet (fail)
    go_wp2_with fail
    go_region_held3 (fun W => W.cell? ⟨b, off + m, none⟩ = some (.int .u8 (n8 y0)) ∧ W.cell? ⟨b, off + m + 1, none⟩ = some (.int .u8 (n8 y1)) ∧ W.cell? ⟨b, off + m + 2, none⟩ = some (.int .u8 (n8 y2)) ∧ W.cell? ⟨b, off + m + 3, none⟩ = some (.int .u8 (n8 y3)))
      (first | exact ⟨by go_simp, by go_simp, by go_simp, by go_simp⟩ | go_keep)
      (first
        | (go_at_call 23; refine (unhide hsum' _ (below_drewN (Below.refl _ _) _)).mono ?_; rintro e w1 ⟨rfl, rfl⟩)
        | (go_at_call 22; refine (unhide hoct _).mono ?_; rintro e w1 ⟨rfl, hb1⟩; unfold octsV; have t0 := hb1.cell (p := ⟨b, off + m, none⟩) (by simpa using q2); have t1 := hb1.cell (p := ⟨b, off + m + 1, none⟩) (by simpa using q2); have t2 := hb1.cell (p := ⟨b, off + m + 2, none⟩) (by simpa using q2); have t3 := hb1.cell (p := ⟨b, off + m + 3, none⟩) (by simpa using q2)))
    all_goals
      have hbb : Below w.heap.size w w1 := (below_drewN (Below.refl _ _) _).trans hb1
      go_wp2_with fail
      go_ret2
      exact ⟨none, 0, 7, rfl, rfl, World.ownsRow_nil _ _ _ _, by (repeat (first | with_reducible exact Below.refl _ _ | with_reducible assumption | with_reducible refine Below.drew ?_ | with_reducible refine bl_alloc ?_ _ | with_reducible refine bl_call ?_ (by assumption) | (focus (with_reducible refine Below.setCell ?_ ?_ _; rotate_left; focus (first | omega | (simp <;> omega)))) | fail))⟩
  | true =>
    have hs4 := (unhide hk).symm.trans hO
    replace hO := hide hO
    go_enter Tryd.func13, Tryd.ntmps13
    go_wp2_with fail
    go_quiet (fail)
    go_wp2_with fail
    go_region_held3 (fun W => W.cell? ⟨b, off + m, none⟩ = some (.int .u8 (n8 y0)) ∧ W.cell? ⟨b, off + m + 1, none⟩ = some (.int .u8 (n8 y1)) ∧ W.cell? ⟨b, off + m + 2, none⟩ = some (.int .u8 (n8 y2)) ∧ W.cell? ⟨b, off + m + 3, none⟩ = some (.int .u8 (n8 y3)))
      (first | exact ⟨by go_simp, by go_simp, by go_simp, by go_simp⟩ | go_keep)
      (first
        | (go_at_call 23; refine (unhide hsum' _ (below_drewN (Below.refl _ _) _)).mono ?_; rintro e w1 ⟨rfl, rfl⟩)
        | (go_at_call 22; refine (unhide hoct _).mono ?_; rintro e w1 ⟨rfl, hb1⟩; unfold octsV; have t0 := hb1.cell (p := ⟨b, off + m, none⟩) (by simpa using q2); have t1 := hb1.cell (p := ⟨b, off + m + 1, none⟩) (by simpa using q2); have t2 := hb1.cell (p := ⟨b, off + m + 2, none⟩) (by simpa using q2); have t3 := hb1.cell (p := ⟨b, off + m + 3, none⟩) (by simpa using q2)))
    all_goals
      have hbb : Below w.heap.size w w1 := (below_drewN (Below.refl _ _) _).trans hb1
      go_wp2_with (first | (go_at_call 21; refine (unhide hcl _ (by assumption)).mono ?_; rintro e w2 ⟨A2, c2, rfl, hown, hb2⟩; replace hown := hide hown))
      go_ret2
      exact ⟨A2, c2, 0, rfl, rfl, by simpa using ownsRow_mono (unhide hown) hbb.size, by (repeat (first | with_reducible exact Below.refl _ _ | with_reducible assumption | with_reducible refine Below.drew ?_ | with_reducible refine bl_alloc ?_ _ | with_reducible refine bl_call ?_ (by assumption) | (focus (with_reducible refine Below.setCell ?_ ?_ _; rotate_left; focus (first | omega | (simp <;> omega)))) | fail))⟩
end
end Go.Proofs.YthkccpemgmpadaaDoor.C

namespace Go.Proofs.YthkccpemgmpadaaDoor.C
set_option maxRecDepth 100000
open Go.RowKit

/-- The string of bytes. -/
def strU (l : List UInt8) : ByteArray := strOfNums (l.map fun x => (x.toNat : Int))
theorem Bs.convert {lo hi : Nat} {w : World} {v : Value} {l : List UInt8} (h : Bs lo hi w v l) : (convert 31 9 v).run Tryd.prog w = .ok (.string (strU l)) w := by
  obtain ⟨A, c, rfl, h1, h2, h3⟩ := h
  rcases Nat.eq_zero_or_pos l.length with h0 | h0
  · obtain rfl : l = [] := List.eq_nil_of_length_eq_zero h0
    rw [run_convert_bytes_string w 31 9 5 _ _ c Tryd.underlying31 Tryd.underlying5 Tryd.underlying9]
    cases A <;> simp [Conv.bytesToString, loadCells, loadCellsFrom, strU, strOfNums]
    all_goals rfl
  · obtain ⟨b, o, rfl, _, _, hc⟩ := h3 h0
    exact run_convert_bytes_arg (P := Tryd.prog) w 31 5 Tryd.underlying31 Tryd.underlying5 b o l.length c (l.map fun x => (x.toNat : Int)) (by simp) (fun i hi => by rw [hc i (by simpa using hi)]; simp [u8v, List.getD, List.getElem?_eq_getElem (show i < l.length by simpa using hi)]) 9 Tryd.underlying9
theorem strU_toList (l : List UInt8) : (strU l).toList = l := by
  have h := Lib.strOfNums_toList (l.map fun x => (x.toNat : Int))
  have e : Lib.bytesOf (l.map fun x => (x.toNat : Int)) = l := by
    unfold Lib.bytesOf
    rw [List.map_map]
    conv => rhs; rw [← List.map_id l]
    apply List.map_congr_left
    intro x _
    simp
  exact h.trans e
set_option maxHeartbeats 400000 in
theorem sameb_any (lo hi lo' hi' : Nat) (v1 v2 : Value) (a b : List UInt8) (w : World) (h1 : Bs lo hi w v1 a) (h2 : Bs lo' hi' w v2 b) : Calls Tryd.prog 12 #[v1, v2] w fun e w' => e = .returned (.bool (decide (a = b))) ∧ w = w' := by
  have c1 := h1.convert
  have c2 := h2.convert
  clear h1 h2
  have hs : ((strU a).toList == (strU b).toList) = decide (a = b) := by
    have e1 : (strU a).toList = a := strU_toList a
    have e2 : (strU b).toList = b := strU_toList b
    rw [e1, e2, Bool.eq_iff_iff]; simp
  go_enter Tryd.func12, Tryd.ntmps12
  go_wp2
  go_ret
  exact ⟨rfl, rfl⟩

/-- A cell of a row of the call's own is written. -/
theorem own_put {w : World} {base g n cap k : Nat} {e : TypeId} {xs : List Value} (h : w.ownsRow base e 1 (.slice (some ⟨g, 0, none⟩) n cap) n xs) (u : Value) :
    (w.setCell ⟨g, k, none⟩ u).ownsRow base e 1 (.slice (some ⟨g, 0, none⟩) n cap) n (xs.set k u) := by
  obtain ⟨h1, h2⟩ := h
  refine ⟨by rw [List.length_set]; exact h1, ?_⟩
  rcases h2 with ⟨h2, _⟩ | ⟨g', cap', cur, hv, hb, hh, r1, r2, r3, r4⟩
  · cases h2
  · injection hv with e1 _ e3
    injection e1 with e1
    injection e1 with e1
    subst e1 e3
    refine .inr ⟨g, cap, cur.setIfInBounds k u, rfl, hb, heap_setCell_same w g k cur e u hh, r1, r2, by simpa using r3, ?_⟩
    rw [Array.toList_setIfInBounds, List.take_set, r4]
theorem own_pos {w : World} {base n : Nat} {e : TypeId} {A : Option Addr} {c : Nat} {xs : List Value} (h : w.ownsRow base e 1 (.slice A n c) n xs) (h0 : 0 < n) :
    ∃ g cur, A = some ⟨g, 0, none⟩ ∧ base ≤ g ∧ Blk w g e cur ∧ n ≤ cur.size ∧ ∀ k, k < n → cur[k]? = xs[k]? := by
  obtain ⟨h1, h2⟩ := h
  rcases h2 with ⟨h2, h3⟩ | ⟨g', cap', cur, hv, hb, hh, r1, r2, r3, r4⟩
  · omega
  · injection hv with e1 _ e3
    refine ⟨g', cur, e1, hb, hh, by omega, fun k hk => ?_⟩
    subst r4
    rw [List.getElem?_take, if_pos (by omega), Array.getElem?_toList]

/-- A sealed text. -/
def sealL (l : List UInt8) : List UInt8 := l ++ octs (sumR l)
theorem sealL_len (l : List UInt8) : (sealL l).length = l.length + 4 := by simp [sealL, octs]
theorem okO_seal (l : List UInt8) : okO (sealL l) l.length = true := by
  rw [okO_iff (sealL_len l)]
  simp [sealL]
theorem take_seal (l : List UInt8) : (sealL l).take l.length = l := by simp [sealL]
theorem okO_set {l : List UInt8} {k : Nat} (hk : k < (sealL l).length) {c : UInt8} (h : (sealL l)[k] ≠ c) : okO ((sealL l).set k c) l.length = false := by
  cases ho : okO ((sealL l).set k c) l.length with
  | false => rfl
  | true =>
    exfalso
    rw [okO_iff (by rw [List.length_set, sealL_len])] at ho
    unfold sealL at ho h hk
    rcases Nat.lt_or_ge k l.length with h1 | h1
    · rw [List.set_append_left _ _ h1] at ho
      rw [List.drop_left' (by simp), List.take_left' (by simp)] at ho
      rw [List.getElem_append_left h1] at h
      exact sumR_set h1 h (octs_inj ho).symm
    · rw [List.set_append_right _ _ h1] at ho
      rw [List.drop_left' (by simp), List.take_left' (by simp)] at ho
      rw [List.getElem_append_right h1] at h
      have hi : k - l.length < (octs (sumR l)).length := by rw [List.length_append] at hk; omega
      have := List.getElem_set_self (l := octs (sumR l)) (i := k - l.length) (a := c) (by simpa using hi)
      apply h
      rw [← this]
      congr 1
      exact ho.symm
end Go.Proofs.YthkccpemgmpadaaDoor.C
