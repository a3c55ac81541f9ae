import Derived.Test.YthkccpemgmpadaaGreatDoorProg
import Derived.WalkKit
import Derived.Handy
import Derived.Lib.SliceRun
import Derived.WalkSpells
import Derived.WalkLawsBesides
import Derived.Lib.Hide
import Derived.Deep.QuietTactic
import Derived.BigQuiet
import Derived.Deep.RegionHeld3
import Derived.Laws.CopyOwn
import Derived.Deep.AppendLies
import Derived.Deep.LoopGhost
import Derived.StillTailTactics
import Derived.Laws.BitsAllLaws
import Derived.Lib.Bytes
import Derived.Lib.AppendZeros
import Derived.Deep.DeepCutAuto
namespace Go.Proofs.YthkccpemgmpadaaGreatDoor
set_option maxRecDepth 100000
abbrev Wd := BitVec 32
abbrev Reg := BitVec 32
structure St where
  a : Wd
  b : Wd
  c : Wd
  d : Wd
theorem St.eq {s t : St} (h0 : s.a = t.a) (h1 : s.b = t.b) (h2 : s.c = t.c) (h3 : s.d = t.d) : s = t := by cases s; cases t; simp_all
instance : DecidableEq St := fun s t =>
  if h : s.a = t.a ∧ s.b = t.b ∧ s.c = t.c ∧ s.d = t.d then isTrue (St.eq h.1 h.2.1 h.2.2.1 h.2.2.2) else isFalse (by rintro rfl; exact h ⟨rfl, rfl, rfl, rfl⟩)
def rot (x : Wd) (k : Nat) : Wd := x <<< k ||| x >>> (32 - k)
def kon (k : Nat) : Wd := (BitVec.ofNat 32 k + 1#32) * 2654435769#32
def rnd (k : Nat) (s : St) : St :=
  let a1 := s.a + s.b
  let d1 := rot (s.d ^^^ a1) 16
  let c1 := s.c + d1
  let b1 := rot (s.b ^^^ c1) 12
  let a2 := a1 + b1
  let d2 := rot (d1 ^^^ a2) 8
  let c2 := c1 + d2
  let b2 := rot (b1 ^^^ c2) 7
  ⟨b2, c2, d2, a2 ^^^ kon k⟩
def rnds : Nat → St → St
  | 0, s => s
  | k + 1, s => rnd k (rnds k s)
def permF (s : St) : St := rnds 8 s
def oc (c : UInt8) : Wd := c.toBitVec.setWidth 32
def four (l : List UInt8) : Wd := oc (l.getD 0 0) ||| oc (l.getD 1 0) <<< 8 ||| oc (l.getD 2 0) <<< 16 ||| oc (l.getD 3 0) <<< 24
def oct (x : Wd) : List UInt8 := [⟨x.setWidth 8⟩, ⟨(x >>> 8).setWidth 8⟩, ⟨(x >>> 16).setWidth 8⟩, ⟨(x >>> 24).setWidth 8⟩]
theorem oct_len (x : Wd) : (oct x).length = 4 := rfl
def octs4 (s : St) : List UInt8 := oct s.a ++ oct s.b ++ oct s.c ++ oct s.d
def ofF (l : List UInt8) : St := ⟨four (l.take 4), four ((l.drop 4).take 4), four ((l.drop 8).take 4), four (l.drop 12)⟩
theorem octs_len (s : St) : (octs4 s).length = 16 := rfl
theorem four_take4 (l : List UInt8) : four (l.take 4) = four l := by
  unfold four
  simp [List.getD_eq_getElem?_getD]
def inF (s : St) (l : List UInt8) : St := permF { s with a := s.a ^^^ four (l.take 4), b := s.b ^^^ four ((l.drop 4).take 4) }
def absF : Nat → St → List UInt8 → St
  | 0, s, _ => s
  | n + 1, s, l => absF n (inF s l) (l.drop 8)
def padF (l : List UInt8) : List UInt8 := l ++ 128 :: List.replicate (7 - l.length % 8) 0
def absorbF (s : St) (l : List UInt8) : St := absF (l.length / 8 + 1) s (padF l)
theorem pad_len (l : List UInt8) : (padF l).length = (l.length / 8 + 1) * 8 := by
  simp [padF]; omega
theorem pad_drop {l : List UInt8} (h : 8 ≤ l.length) : (padF l).drop 8 = padF (l.drop 8) := by
  unfold padF
  rw [List.drop_append_of_le_length h, List.length_drop]
  congr 3
  omega
theorem pad_take {l : List UInt8} (h : 8 ≤ l.length) : (padF l).take 8 = l.take 8 := by
  unfold padF
  rw [List.take_append_of_le_length h]
theorem inF_take {s : St} {l : List UInt8} : inF s (l.take 8) = inF s l := by
  have e1 : (l.take 8).take 4 = l.take 4 := by rw [List.take_take]; rfl
  have e2 : ((l.take 8).drop 4).take 4 = (l.drop 4).take 4 := by rw [List.drop_take, List.take_take]; rfl
  unfold inF
  rw [e1, e2]
theorem absorb_blocks {s : St} {l : List UInt8} (h : 8 ≤ l.length) : absorbF s l = absorbF (inF s l) (l.drop 8) := by
  unfold absorbF
  have e : l.length / 8 + 1 = ((l.drop 8).length / 8 + 1) + 1 := by rw [List.length_drop]; omega
  have e2 : inF s (padF l) = inF s l := by rw [← inF_take, pad_take h, inF_take]
  rw [e, absF, pad_drop h, e2]
def sqF : Nat → St → List UInt8
  | 0, _ => []
  | n + 1, s => oct s.a ++ oct s.b ++ sqF n (permF s)
def squeezeF (s : St) (n : Nat) : List UInt8 := (sqF ((n + 7) / 8) s).take n
theorem sqF_len (n : Nat) (s : St) : (sqF n s).length = n * 8 := by
  induction n generalizing s with
  | zero => rfl
  | succ n ih => rw [sqF, List.length_append, List.length_append, oct_len, oct_len, ih]; omega
theorem sqF_pre (n m : Nat) (s : St) (h : n ≤ m) : (sqF m s).take (n * 8) = sqF n s := by
  induction n generalizing m s with
  | zero => simp [sqF]
  | succ n ih =>
    obtain ⟨k, rfl⟩ : ∃ k, m = k + 1 := ⟨m - 1, by omega⟩
    have e8 : (oct s.a ++ oct s.b).length = 8 := rfl
    rw [sqF, sqF, List.take_append, e8, List.take_of_length_le (by rw [e8]; omega)]
    rw [show (n + 1) * 8 - 8 = n * 8 by omega, ih _ _ (by omega)]
theorem squeeze_len (s : St) (n : Nat) : (squeezeF s n).length = n := by
  unfold squeezeF
  rw [List.length_take, sqF_len]; omega
theorem squeeze_fewer (s : St) (n more : Nat) : (squeezeF s (n + more)).take n = squeezeF s n := by
  unfold squeezeF
  rw [List.take_take, Nat.min_eq_left (by omega)]
  have h := sqF_pre ((n + 7) / 8) ((n + more + 7) / 8) s (by omega)
  rw [← h, List.take_take, Nat.min_eq_left (by omega)]
abbrev Nx := BitVec 64
def eight (n : Nx) : List UInt8 := oct (n.setWidth 32) ++ oct ((n >>> 32).setWidth 32)
def of8 (l : List UInt8) : Nx := (four (l.take 4)).setWidth 64 ||| (four ((l.drop 4).take 4)).setWidth 64 <<< 32
theorem eight_len (n : Nx) : (eight n).length = 8 := rfl
def streamF (key : St) (n : Nx) (long : Nat) : List UInt8 := squeezeF (absorbF key (eight n ++ [1])) long
def tagF (key : St) (n : Nx) (t : List UInt8) : St := absorbF key (eight n ++ 2 :: t)
theorem stream_len (key : St) (n : Nx) (k : Nat) : (streamF key n k).length = k := squeeze_len _ _
theorem stream_fewer (key : St) (n : Nx) (k more : Nat) : (streamF key n (k + more)).take k = streamF key n k := squeeze_fewer _ _ _
def hidF (key : St) (n : Nx) (b : List UInt8) : List UInt8 := List.zipWith (· ^^^ ·) b (streamF key n b.length)
theorem hid_len (key : St) (n : Nx) (b : List UInt8) : (hidF key n b).length = b.length := by
  unfold hidF
  rw [List.length_zipWith, stream_len, Nat.min_self]
theorem hid_get (key : St) (n : Nx) (b : List UInt8) (more i : Nat) (h : i < b.length) : (hidF key n b)[i]? = some (b[i] ^^^ (streamF key n (b.length + more))[i]'(by rw [stream_len]; omega)) := by
  have e := stream_fewer key n b.length more
  have e2 : (streamF key n b.length)[i]? = (streamF key n (b.length + more))[i]? := by
    rw [← e, List.getElem?_take_of_lt h]
  unfold hidF
  rw [List.getElem?_zipWith, e2, List.getElem?_eq_getElem h, List.getElem?_eq_getElem (by rw [stream_len]; omega)]
structure Bx where
  n : Nx
  text : List UInt8
  tag : St
def bytesF (x : Bx) : List UInt8 := eight x.n ++ octs4 x.tag ++ x.text
def fromF (b : List UInt8) : Bx := ⟨of8 (b.take 8), b.drop 24, ofF ((b.drop 8).take 16)⟩
theorem bytes_len (x : Bx) : (bytesF x).length = x.text.length + 24 := by
  unfold bytesF
  rw [List.length_append, List.length_append, eight_len, octs_len]; omega
end Go.Proofs.YthkccpemgmpadaaGreatDoor

namespace Go.Proofs.YthkccpemgmpadaaGreatDoor
set_option maxRecDepth 100000
def oct8 (n : Nx) (i : Nat) : UInt8 := ⟨(n >>> (8 * i)).setWidth 8⟩
def eightK (n : Nx) : Nat → List UInt8
  | 0 => []
  | k + 1 => eightK n k ++ [oct8 n k]
theorem eightK_len (n : Nx) (k : Nat) : (eightK n k).length = k := by
  induction k with
  | zero => rfl
  | succ k ih => rw [eightK, List.length_append, ih]; rfl
theorem lo_oct (n : Nx) (i : Nat) (h : i < 4) : (⟨(n.setWidth 32 >>> (8 * i)).setWidth 8⟩ : UInt8) = oct8 n i := by
  unfold oct8
  congr 1
  apply BitVec.eq_of_getLsbD_eq
  intro j hj
  have h1 : 8 * i + j < 32 := by omega
  simp only [BitVec.getLsbD_setWidth, BitVec.getLsbD_ushiftRight, hj, h1, decide_true, Bool.true_and]
theorem hi_oct (n : Nx) (i : Nat) (h : i < 4) : (⟨((n >>> 32).setWidth 32 >>> (8 * i)).setWidth 8⟩ : UInt8) = oct8 n (4 + i) := by
  unfold oct8
  congr 1
  apply BitVec.eq_of_getLsbD_eq
  intro j hj
  have h1 : 8 * i + j < 32 := by omega
  have h2 : 32 + (8 * i + j) = 8 * (4 + i) + j := by omega
  simp only [BitVec.getLsbD_setWidth, BitVec.getLsbD_ushiftRight, hj, h1, h2, decide_true, Bool.true_and]
theorem eightK_all (n : Nx) : eightK n 8 = eight n := by
  have l0 := lo_oct n 0 (by omega); have l1 := lo_oct n 1 (by omega); have l2 := lo_oct n 2 (by omega); have l3 := lo_oct n 3 (by omega)
  have h0 := hi_oct n 0 (by omega); have h1 := hi_oct n 1 (by omega); have h2 := hi_oct n 2 (by omega); have h3 := hi_oct n 3 (by omega)
  unfold eight oct
  simp only [eightK, List.nil_append, List.cons_append]
  simp only [Nat.mul_zero, Nat.mul_one, Nat.reduceMul, Nat.reduceAdd, BitVec.ushiftRight_zero, Nat.add_zero] at l0 l1 l2 l3 h0 h1 h2 h3
  rw [l0, l1, l2, l3, h0, h1, h2, h3]
def shrK (n : Nx) (k : Nat) : Nx := n >>> (8 * k)
theorem shrK_zero (n : Nx) : shrK n 0 = n := by simp [shrK]
theorem shrK_succ (n : Nx) (k : Nat) : shrK n k >>> 8 = shrK n (k + 1) := by
  unfold shrK
  rw [← BitVec.shiftRight_add]; rfl
def oc8 (c : UInt8) : Nx := c.toBitVec.setWidth 64
def numK (l : List UInt8) : Nat → Nx
  | 0 => 0#64
  | k + 1 => numK l k ||| oc8 (l.getD k 0) <<< (8 * k)
theorem oc_wide (c : UInt8) (k : Nat) (h : k ≤ 24) : (oc c <<< k).setWidth 64 = oc8 c <<< k := by
  unfold oc oc8
  apply BitVec.eq_of_getLsbD_eq
  intro i hi
  simp only [BitVec.getLsbD_setWidth, BitVec.getLsbD_shiftLeft]
  by_cases h8 : i - k < 8
  · have h1 : i < 32 := by omega
    have h2 : i - k < 32 := by omega
    have h3 : i - k < 64 := by omega
    simp [h1, h2, h3, hi]
  · have z : c.toBitVec.getLsbD (i - k) = false := BitVec.getLsbD_of_ge _ _ (by omega)
    simp [z]
theorem oc_wide0 (c : UInt8) : (oc c).setWidth 64 = oc8 c := by
  have := oc_wide c 0 (by omega)
  simpa using this
theorem four_wide (l : List UInt8) : (four l).setWidth 64 = oc8 (l.getD 0 0) ||| oc8 (l.getD 1 0) <<< 8 ||| oc8 (l.getD 2 0) <<< 16 ||| oc8 (l.getD 3 0) <<< 24 := by
  unfold four
  rw [BitVec.setWidth_or, BitVec.setWidth_or, BitVec.setWidth_or, oc_wide _ 8 (by omega), oc_wide _ 16 (by omega), oc_wide _ 24 (by omega), oc_wide0]
theorem getD_take4 (l : List UInt8) (i : Nat) (h : i < 4) : (l.take 4).getD i 0 = l.getD i 0 := by
  simp [List.getD_eq_getElem?_getD, h]
theorem getD_drop4 (l : List UInt8) (i : Nat) (h : i < 4) : ((l.drop 4).take 4).getD i 0 = l.getD (4 + i) 0 := by
  simp [List.getD_eq_getElem?_getD, List.getElem?_drop, h]
theorem numK_all (l : List UInt8) : numK l 8 = of8 l := by
  unfold of8
  rw [four_wide, four_wide, getD_take4 l 0 (by omega), getD_take4 l 1 (by omega), getD_take4 l 2 (by omega), getD_take4 l 3 (by omega),
    getD_drop4 l 0 (by omega), getD_drop4 l 1 (by omega), getD_drop4 l 2 (by omega), getD_drop4 l 3 (by omega)]
  simp only [BitVec.shiftLeft_or_distrib, ← BitVec.shiftLeft_add, numK, Nat.mul_zero, Nat.mul_one, Nat.reduceMul, Nat.reduceAdd, BitVec.shiftLeft_zero, BitVec.zero_or, BitVec.or_assoc, Nat.add_zero]
def horK (l : List UInt8) : Nat → Nx
  | 0 => 0#64
  | k + 1 => 256#64 * horK l k + oc8 (l.getD (7 - k) 0)
theorem hor_step (x : Nx) (c : UInt8) : 256#64 * x + oc8 c = x <<< 8 ||| oc8 c := by
  have e : 256#64 * x = x <<< 8 := by
    rw [BitVec.mul_comm]
    have := BitVec.shiftLeft_eq_mul_twoPow x 8
    rw [this]; rfl
  rw [e]
  apply BitVec.add_eq_or_of_and_eq_zero
  apply BitVec.eq_of_getLsbD_eq
  intro i hi
  simp only [BitVec.getLsbD_and, BitVec.getLsbD_shiftLeft, oc8, BitVec.getLsbD_setWidth, BitVec.getLsbD_zero]
  by_cases h : i < 8
  · simp [h]
  · have z : c.toBitVec.getLsbD i = false := BitVec.getLsbD_of_ge _ _ (by omega)
    simp [z]
theorem horK_all (l : List UInt8) : horK l 8 = of8 l := by
  rw [← numK_all]
  simp only [horK, hor_step, numK, BitVec.shiftLeft_or_distrib, ← BitVec.shiftLeft_add, Nat.mul_zero, Nat.mul_one, Nat.reduceMul, Nat.reduceAdd, Nat.reduceSub, BitVec.shiftLeft_zero, BitVec.zero_or, BitVec.zero_shiftLeft, Nat.sub_zero, Nat.sub_self]
  generalize oc8 (l.getD 0 0) = c0, oc8 (l.getD 1 0) <<< 8 = c1, oc8 (l.getD 2 0) <<< 16 = c2, oc8 (l.getD 3 0) <<< 24 = c3, oc8 (l.getD 4 0) <<< 32 = c4, oc8 (l.getD 5 0) <<< 40 = c5, oc8 (l.getD 6 0) <<< 48 = c6, oc8 (l.getD 7 0) <<< 56 = c7
  ac_rfl
end Go.Proofs.YthkccpemgmpadaaGreatDoor

namespace Go.Proofs.YthkccpemgmpadaaGreatDoor
set_option maxRecDepth 100000
open Go.RowKit
def n8 (x : UInt8) : Int := (x.toNat : Int)
def n32 (x : Reg) : Int := (x.toNat : Int)
abbrev u8v (x : UInt8) : Value := .int .u8 (n8 x)
abbrev u32v (x : Reg) : Value := .int .u32 (n32 x)
def Bs (lo hi : Nat) (w : World) (v : Value) (l : List UInt8) : Prop :=
  ∃ A c, v = .slice A l.length c ∧ l.length ≤ c ∧ c ≤ 9223372036854775807 ∧
    (0 < l.length → ∃ b off, A = some ⟨b, off, none⟩ ∧ lo ≤ b ∧ b < hi ∧ ∀ i (h : i < l.length), w.cell? ⟨b, off + i, none⟩ = some (u8v l[i]))
def Agree (lo hi : Nat) (w w' : World) : Prop := ∀ k, lo ≤ k → k < hi → w'.heap[k]? = w.heap[k]?
theorem Agree.of_below {lo hi B : Nat} {w w' : World} (h : Below B w w') (hb : hi ≤ B) : Agree lo hi w w' := fun k _ hk => h.block k (by omega)
theorem Agree.refl (lo hi : Nat) (w : World) : Agree lo hi w w := fun _ _ _ => rfl
theorem Bs.keep {lo hi : Nat} {w w' : World} {v : Value} {l : List UInt8} (h : Bs lo hi w v l) (k : Agree lo hi w w') : Bs lo hi w' v l := by
  obtain ⟨A, c, rfl, h1, h2, h3⟩ := h
  refine ⟨A, c, rfl, h1, h2, fun h0 => ?_⟩
  obtain ⟨b, off, rfl, hb, hb', hc⟩ := h3 h0
  exact ⟨b, off, rfl, hb, hb', fun i hi => (World.cell?_of_block (k b hb hb')).trans (hc i hi)⟩
theorem Bs.mono {lo lo' hi hi' : Nat} {w : World} {v : Value} {l : List UInt8} (h : Bs lo hi w v l) (h1 : lo' ≤ lo) (h2 : hi ≤ hi') : Bs lo' hi' w v l := by
  obtain ⟨A, c, rfl, a1, a2, h3⟩ := h
  refine ⟨A, c, rfl, a1, a2, fun h0 => ?_⟩
  obtain ⟨b, off, rfl, hb, hb', hc⟩ := h3 h0
  exact ⟨b, off, rfl, by omega, by omega, hc⟩
theorem Bs.below {lo hi B : Nat} {w w' : World} {v : Value} {l : List UInt8} (h : Bs lo hi w v l) (hb : Below B w w') (hB : hi ≤ B) : Bs lo hi w' v l :=
  h.keep (Agree.of_below hb hB)
theorem bl_alloc {a w : World} (h : Below a.heap.size a w) (o : Obj) : Below a.heap.size a (w.alloc o) := h.alloc h.size o
theorem bl_call {a w w' : World} (h : Below a.heap.size a w) (h' : Below w.heap.size w w') : Below a.heap.size a w' := h.trans (h'.mono h.size)
theorem bl_grown {a w w' : World} {row : Option Nat} (h : Below a.heap.size a w) (hg : w.grownBy w' row) (hr : ∀ k, row = some k → a.heap.size ≤ k) : Below a.heap.size a w' := h.grown hg h.size hr
theorem bcell {W w1 : World} (hb : Below W.heap.size W w1) : (∀ b o, b < W.heap.size → w1.cell? ⟨b, o, none⟩ = W.cell? ⟨b, o, none⟩) ∧ (∀ b o, b < W.heap.size → w1.frozen? ⟨b, o, none⟩ = W.frozen? ⟨b, o, none⟩) :=
  ⟨fun b o h => hb.cell (p := ⟨b, o, none⟩) h, fun b o h => hb.frozen (p := ⟨b, o, none⟩) h⟩
theorem hide {p : Prop} (h : p) : Hid p := h
theorem unhide {p : Prop} (h : Hid p) : p := h
theorem ret_b {v : Value} {b b' : Bool} (h : v = .bool b) (e : b = b') : Ending.returned v = .returned (.bool b') := by rw [h, e]
theorem ret_i {v : Value} {k : IntKind} {b b' : Int} (h : v = .int k b) (e : b = b') : Ending.returned v = .returned (.int k b') := by rw [h, e]
def SrcOk (w : World) (A : Option Addr) (m : Nat) (news : List Value) : Prop := 0 < m → ∃ ad, A = some ad ∧ ∀ j u, news[j]? = some u → w.cell? (ad.add j) = some u
theorem SrcOk.below {w w' : World} {A : Option Addr} {m : Nat} {news : List Value} (h : SrcOk w A m news) (hb : Below w.heap.size w w') : SrcOk w' A m news := fun h0 => by
  obtain ⟨ad, e, hc⟩ := h h0
  exact ⟨ad, e, fun j u hu => (hb.cell (World.block_lt_of_cell? w _ (hc j u hu))).trans (hc j u hu)⟩
section
variable {P : Program} (w : World)
theorem run_app (base : Nat) (t ty e : TypeId) (i : TypeInfo) (z : Value) (size bytes : Nat) (ht : P.underlying t = some (.slice e)) (hi : P.info? e = some i) (hz : i.zero = some z)
    (hsize : i.size = size) (hby : i.bytes = bytes) (hzs : z.cells.size = size) (hsz : 0 < size)
    (v : Value) (n : Nat) (xs : List Value) (hown : w.ownsRow base e size v n xs)
    (A : Option Addr) (m c : Nat) (news : List Value) (hl : news.length = m * size) (hr : SrcOk w A m news) (h1 : ∀ u ∈ news, u.oneCell' = true)
    (h63 : n + m ≤ maxLen) (hbytes : (n + m) * bytes ≤ 140737488355328) (hbase : base ≤ w.heap.size) :
    ∃ v' w', (Builtin.append_ #[t, t] ty #[v, .slice A m c]).run P w = .ok v' w' ∧ w'.ownsRow base e size v' (n + m) (xs ++ news) ∧ w.grownBy w' v.ownBlock := by
  rcases Nat.eq_zero_or_pos m with rfl | hm
  · have hn : news = [] := List.eq_nil_of_length_eq_zero (by simpa using hl)
    subst hn
    rcases A with _ | ad
    · refine ⟨v, w, ?_, by simpa using hown, World.grownBy.refl w _⟩
      rcases hown.2 with ⟨rfl, rfl⟩ | ⟨g, cap, cur, rfl, _, _, hnc, _⟩
      · simp [Builtin.append_, run_underlying ht, sizeOf, typeInfo, hi, Builtin.lenOf, Builtin.firstCells]
      · simp [Builtin.append_, run_underlying ht, sizeOf, typeInfo, hi, Builtin.lenOf, Builtin.firstCells, hnc, storeCells]
    · obtain ⟨v', w', a, b, c', _⟩ := run_append_own (P := P) w base t ty e i z size bytes ht hi hz hsize hby hzs hsz v n xs hown ad 0 c [] hl (by simp) h1 h63 hbytes hbase
      exact ⟨v', w', a, b, c'⟩
  · obtain ⟨ad, rfl, hc⟩ := hr hm
    obtain ⟨v', w', a, b, c', _⟩ := run_append_own (P := P) w base t ty e i z size bytes ht hi hz hsize hby hzs hsz v n xs hown ad m c news hl hc h1 h63 hbytes hbase
    exact ⟨v', w', a, b, c'⟩
theorem wp_app {o : Oper} {a : Act} {K : Act → World → Prop} {Q : Exit → Act → World → Prop} (s x : Operand) (t : TypeId)
    (ho : o.op = .call { callee := .builtin .append, args := #[s, x], argTypes := #[t, t] })
    (base : Nat) (e : TypeId) (i : TypeInfo) (z : Value) (size bytes : Nat) (ht : P.underlying t = some (.slice e)) (hi : P.info? e = some i) (hz : i.zero = some z)
    (hsize : i.size = size) (hby : i.bytes = bytes) (hzs : z.cells.size = size) (hsz : 0 < size)
    (v : Value) (n : Nat) (xs : List Value) (hs : a.eval s = v) (hown : w.ownsRow base e size v n xs)
    (A : Option Addr) (m c : Nat) (news : List Value) (hx : a.eval x = .slice A m c) (hl : news.length = m * size) (hr : SrcOk w A m news) (h1 : ∀ u ∈ news, u.oneCell' = true)
    (h63 : n + m ≤ maxLen) (hbytes : (n + m) * bytes ≤ 140737488355328) (hbase : base ≤ w.heap.size)
    (h : ∀ v' w', w'.ownsRow base e size v' (n + m) (xs ++ news) → w.grownBy w' v.ownBlock → K (a.put o.dst v') w') : o.wp P a w K Q := by
  obtain ⟨v', w', hr, h2, h3⟩ := run_app (P := P) w base t o.type e i z size bytes ht hi hz hsize hby hzs hsz v n xs hown A m c news hl hr h1 h63 hbytes hbase
  unfold Oper.wp execOp
  simp only [ho, resolve, invoke, builtin, Sem.run_bind, Sem.run_pure, Result.andThen_ok, List.map_toArray, List.map_cons, List.map_nil, hs, hx, hr]
  exact h v' w' h2 h3
theorem wpList_app {ops : Array Oper} {rest : List Oper} {o : Oper} {a : Act} {Q : Exit → Act → World → Prop} (hgd : o.guard = none) (s x : Operand) (t : TypeId)
    (ho : o.op = .call { callee := .builtin .append, args := #[s, x], argTypes := #[t, t] })
    (base : Nat) (e : TypeId) (i : TypeInfo) (z : Value) (size bytes : Nat) (ht : P.underlying t = some (.slice e)) (hi : P.info? e = some i) (hz : i.zero = some z)
    (hsize : i.size = size) (hby : i.bytes = bytes) (hzs : z.cells.size = size) (hsz : 0 < size)
    (v : Value) (n : Nat) (xs : List Value) (hs : a.eval s = v) (hown : w.ownsRow base e size v n xs)
    (A : Option Addr) (m c : Nat) (news : List Value) (hx : a.eval x = .slice A m c) (hl : news.length = m * size) (hr : SrcOk w A m news) (h1 : ∀ u ∈ news, u.oneCell' = true)
    (h63 : n + m ≤ maxLen) (hbytes : (n + m) * bytes ≤ 140737488355328) (hbase : base ≤ w.heap.size)
    (h : ∀ v' w', w'.ownsRow base e size v' (n + m) (xs ++ news) → w.grownBy w' v.ownBlock → wpList P ops Q rest (a.put o.dst v') w') : wpList P ops Q (o :: rest) a w :=
  wpList_plain hgd fun _ hK => wp_app w s x t ho base e i z size bytes ht hi hz hsize hby hzs hsz v n xs hs hown A m c news hx hl hr h1 h63 hbytes hbase fun v' w' h2 h3 => hK _ _ (h v' w' h2 h3)
end
theorem run_mk {P : Program} (t e : TypeId) (i : TypeInfo) (z : Value) (size : Nat) (ht : P.underlying t = some (.slice e)) (hi : P.info? e = some i) (hz : i.zero = some z) (hsize : i.size = size)
    (n : Nat) (hbytes : i.bytes * n ≤ 281474976710656) (h63 : n ≤ 9223372036854775807) (W : World) :
    (Instr.makeSlice t (.int .i64 (n : Int)) (.int .i64 (n : Int))).run P W = .ok (.slice (some ⟨W.heap.size, 0, none⟩) n n) (W.alloc (.cells (madeCells z.cells (n * size)) e)) := by
  subst hsize
  have hb' : (i.bytes : Int) * (n : Int) ≤ 281474976710656 := by
    have h : ((i.bytes * n : Nat) : Int) ≤ 281474976710656 := by omega
    rwa [Int.natCast_mul] at h
  have hr := run_make (P := P) W t e i z ht hi hz .i64 .i64 n n (by omega) (Int.le_refl _) hb' (by omega)
  simp only [Int.toNat_natCast] at hr
  exact hr
theorem ownsRow_len {w : World} {base : Nat} {e : TypeId} {size : Nat} {v : Value} {n : Nat} {xs : List Value} (h : w.ownsRow base e size v n xs) : xs.length = n * size := h.1
theorem ownsRow_mono {w : World} {base base' : Nat} {e : TypeId} {size : Nat} {v : Value} {n : Nat} {xs : List Value} (h : w.ownsRow base e size v n xs) (hb : base' ≤ base) : w.ownsRow base' e size v n xs := by
  obtain ⟨h1, h2⟩ := h
  refine ⟨h1, ?_⟩
  rcases h2 with h2 | ⟨g, cap, cur, hv, hg, r⟩
  · exact .inl h2
  · exact .inr ⟨g, cap, cur, hv, by omega, r⟩
theorem ownsRow_form {w : World} {base : Nat} {e : TypeId} {size : Nat} {v : Value} {n : Nat} {xs : List Value} (h : w.ownsRow base e size v n xs) : ∃ A c, v = .slice A n c := by
  rcases h.2 with ⟨rfl, rfl⟩ | ⟨g, cap, cur, rfl, _⟩
  · exact ⟨_, _, rfl⟩
  · exact ⟨_, _, rfl⟩
theorem ownsRow_setCell' {w : World} {base : Nat} {e : TypeId} {size : Nat} {v : Value} {n : Nat} {xs : List Value} (h : w.ownsRow base e size v n xs) {a : Addr} (ha : a.block < base) (u : Value) : (w.setCell a u).ownsRow base e size v n xs :=
  ownsRow_setCell_below h ha u
theorem Bs.of_own {w : World} {base : Nat} {e : TypeId} {v : Value} {l : List UInt8} (h : w.ownsRow base e 1 v l.length (l.map u8v)) : Bs base w.heap.size w v l := by
  rcases h.2 with ⟨rfl, h0⟩ | ⟨g, cap, cur, rfl, hb, hg, hnc, hcm, hcs, htake⟩
  · refine ⟨none, 0, by rw [h0], by omega, by omega, fun hp => by omega⟩
  · refine ⟨_, cap, rfl, hnc, by simpa [maxLen] using hcm, fun hp => ⟨g, 0, rfl, hb, ?_, fun i hi => ?_⟩⟩
    · rcases Nat.lt_or_ge g w.heap.size with h1 | h1
      · exact h1
      · rw [Array.getElem?_eq_none h1] at hg; cases hg
    · have hc := World.ownsRow.cellAt (w := w) (base := base) (e := e) (size := 1) (g := g) (n := l.length) (cap := cap) (xs := l.map u8v) h i (by omega)
      rw [Nat.zero_add, hc]
      simp [hi]
theorem u8s_one (l : List UInt8) : ∀ u ∈ l.map u8v, u.oneCell' = true := by
  intro u hu
  obtain ⟨x, _, rfl⟩ := List.mem_map.1 hu
  rfl
theorem Bs.src {lo hi : Nat} {w : World} {A : Option Addr} {n c : Nat} {l : List UInt8} (h : Bs lo hi w (.slice A n c) l) :
    n = l.length ∧ SrcOk w A n (l.map u8v) := by
  obtain ⟨A', c', e, _, _, h3⟩ := h
  injection e with e1 e2 e3
  subst e1 e2 e3
  refine ⟨rfl, fun h0 => ?_⟩
  obtain ⟨b, off, rfl, _, _, hc⟩ := h3 h0
  refine ⟨_, rfl, fun j u hu => ?_⟩
  rw [List.getElem?_map, Option.map_eq_some_iff] at hu
  obtain ⟨x, hx, rfl⟩ := hu
  obtain ⟨hj, rfl⟩ := List.getElem?_eq_some_iff.1 hx
  have := hc j hj
  unfold Addr.add
  split
  · rename_i h0; subst h0; simpa using this
  · exact this
def Blk (w : World) (g : Nat) (t : TypeId) (cs : Array Value) : Prop := w.heap[g]? = some (.cells cs t (0, 0))
section
variable {w w' : World} {g : Nat} {t : TypeId} {cs : Array Value}
theorem Blk.lt (h : Blk w g t cs) : g < w.heap.size := by
  rcases Nat.lt_or_ge g w.heap.size with h1 | h1
  · exact h1
  · unfold Blk at h; rw [Array.getElem?_eq_none h1] at h; cases h
theorem Blk.cell (h : Blk w g t cs) (i : Nat) : w.cell? ⟨g, i, none⟩ = cs[i]? := cell_of_row w g i cs t (0, 0) h
theorem Blk.frozen (h : Blk w g t cs) (i : Nat) : w.frozen? ⟨g, i, none⟩ = false := frozen_of_row w g i cs t h
theorem Blk.new (hg : g = w.heap.size) : Blk (w.alloc (.cells cs t)) g t cs := by subst hg; exact heap_alloc_new w _
theorem Blk.drew (h : Blk w g t cs) : Blk w.drew g t cs := h
theorem Blk.drewN (h : Blk w g t cs) (n : Nat) : Blk (w.drewN n) g t cs := h
theorem Blk.alloc (h : Blk w g t cs) (o : Obj) : Blk (w.alloc o) g t cs := (Below.heap_alloc w o g h.lt).trans h
theorem Blk.set (h : Blk w g t cs) (i : Nat) (u : Value) : Blk (w.setCell ⟨g, i, none⟩ u) g t (cs.setIfInBounds i u) := heap_setCell_same w g i cs t u h
theorem Blk.far (h : Blk w g t cs) {p : Addr} (hp : g ≠ p.block) (u : Value) : Blk (w.setCell p u) g t cs := (Below.heap_setCell w p u g hp).trans h
theorem Blk.below {B : Nat} (h : Blk w g t cs) (hb : Below B w w') (hg : g < B) : Blk w' g t cs := (hb.block g hg).trans h
theorem Blk.ne_ {g' : Nat} {t' : TypeId} {cs' : Array Value} (h : Blk w g t cs) (h' : Blk w g' t' cs') (hne : t ≠ t') : g ≠ g' := by
  rintro rfl
  unfold Blk at h h'
  rw [h] at h'
  injection h' with h'
  injection h' with _ ht
  exact hne ht
theorem Blk.uniq {cs' : Array Value} (h : Blk w g t cs) (h' : Blk w g t cs') : cs = cs' := by
  unfold Blk at h h'
  rw [h] at h'
  injection h' with h'
  injection h'
end
theorem own_below {w w' : World} {base B : Nat} {e : TypeId} {size : Nat} {v : Value} {n : Nat} {xs : List Value} (h : w.ownsRow base e size v n xs) (hb : Below B w w') (hB : w.heap.size ≤ B) : w'.ownsRow base e size v n xs := by
  obtain ⟨h1, h2⟩ := h
  refine ⟨h1, ?_⟩
  rcases h2 with h2 | ⟨g, cap, cur, hv, hg, hh, r⟩
  · exact .inl h2
  · have hl : g < w.heap.size := Blk.lt (t := e) (cs := cur) hh
    exact .inr ⟨g, cap, cur, hv, hg, (hb.block g (by omega)).trans hh, r⟩
theorem own_far {w : World} {base : Nat} {e : TypeId} {size : Nat} {v : Value} {n : Nat} {xs : List Value} (h : w.ownsRow base e size v n xs) {g : Nat} {t : TypeId} {cs : Array Value} (hg : Blk w g t cs) (hne : e ≠ t) (i : Nat) (u : Value) : (w.setCell ⟨g, i, none⟩ u).ownsRow base e size v n xs := by
  obtain ⟨h1, h2⟩ := h
  refine ⟨h1, ?_⟩
  rcases h2 with h2 | ⟨g', cap, cur, hv, hb, hh, r⟩
  · exact .inl h2
  · have : g' ≠ g := Blk.ne_ (t := e) (cs := cur) hh hg hne
    exact .inr ⟨g', cap, cur, hv, hb, (Below.heap_setCell w ⟨g, i, none⟩ u g' this).trans hh, r⟩
theorem Blk.set3 {w : World} {g : Nat} {t : TypeId} {a b c x y z : Value} (h : Blk w g t #[a, b, c]) : Blk (((w.setCell ⟨g, 0, none⟩ x).setCell ⟨g, 1, none⟩ y).setCell ⟨g, 2, none⟩ z) g t #[x, y, z] := by
  simpa using ((h.set 0 x).set 1 y).set 2 z
theorem Blk.set2 {w : World} {g : Nat} {t : TypeId} {a b x y : Value} (h : Blk w g t #[a, b]) : Blk ((w.setCell ⟨g, 0, none⟩ x).setCell ⟨g, 1, none⟩ y) g t #[x, y] := by
  simpa using (h.set 0 x).set 1 y
def VBelow (B : Nat) (v : Value) : Prop := ∀ a n c, v = .slice (some a) n c → a.block < B
theorem own_vbelow {w : World} {base : Nat} {e : TypeId} {size : Nat} {v : Value} {n : Nat} {xs : List Value} (h : w.ownsRow base e size v n xs) : VBelow w.heap.size v := by
  intro a n' c hv
  rcases h.2 with ⟨h1, _⟩ | ⟨g, cap, cur, h1, _, hh, _⟩
  · rw [h1] at hv; injection hv with hv; cases hv
  · rw [h1] at hv
    injection hv with hv
    injection hv with hv
    subst hv
    exact Blk.lt (t := e) (cs := cur) hh
theorem n32_lit (n : Nat) (h : n < 4294967296) : (n : Int) = n32 (BitVec.ofNat 32 n) := by
  unfold n32
  rw [BitVec.toNat_ofNat, Nat.mod_eq_of_lt (by omega)]
theorem n32_inj {x y : Reg} (h : n32 x = n32 y) : x = y := by
  unfold n32 at h
  exact BitVec.eq_of_toNat_eq (by omega)
theorem n8_inj {x y : UInt8} (h : n8 x = n8 y) : x = y := by
  unfold n8 at h
  exact UInt8.toNat_inj.1 (by omega)
section
variable (x y : Reg) (c : UInt8)
theorem ofInt_reg : BitVec.ofInt IntKind.u32.bits (n32 x) = x := by
  show BitVec.ofInt 32 (x.toNat : Int) = x
  rw [BitVec.ofInt_natCast, BitVec.ofNat_toNat, BitVec.setWidth_eq]
theorem wrap_reg : IntKind.u32.wrap ((x.toNat : Nat) : Int) = n32 x := by
  unfold n32
  have := x.isLt
  rw [IntKind.wrap_u32']
  omega
theorem r_xor : bits .xor .u32 (n32 x) (n32 y) = n32 (x ^^^ y) := by
  show IntKind.u32.wrap _ = _
  rw [ofInt_reg, ofInt_reg]
  exact wrap_reg (x ^^^ y)
theorem r_or : bits .or .u32 (n32 x) (n32 y) = n32 (x ||| y) := by
  show IntKind.u32.wrap _ = _
  rw [ofInt_reg, ofInt_reg]
  exact wrap_reg (x ||| y)
theorem r_add : (n32 x + n32 y) % (4294967296 : Int) = n32 (x + y) := by
  unfold n32
  rw [BitVec.toNat_add]
  omega
theorem r_sub : (n32 x - n32 y) % (4294967296 : Int) = n32 (x - y) := by
  unfold n32
  rw [BitVec.toNat_sub]
  have := x.isLt; have := y.isLt
  omega
theorem r_mul : (n32 x * n32 y) % (4294967296 : Int) = n32 (x * y) := by
  unfold n32
  rw [BitVec.toNat_mul, ← Int.natCast_mul]
  generalize x.toNat * y.toNat = z
  omega
theorem r_add1 : (n32 x + (1 : Int)) % (4294967296 : Int) = n32 (x + 1#32) := r_add x 1#32
theorem r_stamp : (n32 x * (2654435769 : Int)) % (4294967296 : Int) = n32 (x * 2654435769#32) := r_mul x 2654435769#32
theorem r_mul1 : ((256 : Int) * n32 y) % (4294967296 : Int) = n32 (256#32 * y) := r_mul 256#32 y
theorem r_mul2 : ((65536 : Int) * n32 y) % (4294967296 : Int) = n32 (65536#32 * y) := r_mul 65536#32 y
theorem r_mul3 : ((16777216 : Int) * n32 y) % (4294967296 : Int) = n32 (16777216#32 * y) := r_mul 16777216#32 y
theorem r_shr (k : Nat) : n32 x / ((2 ^ k : Nat) : Int) = n32 (x >>> k) := by
  unfold n32
  rw [BitVec.toNat_ushiftRight, Nat.shiftRight_eq_div_pow, Int.natCast_ediv]
theorem r_shl (k : Nat) : n32 x * ((2 ^ k : Nat) : Int) % (4294967296 : Int) = n32 (x <<< k) := by
  unfold n32
  rw [BitVec.toNat_shiftLeft, Nat.shiftLeft_eq, ← Int.natCast_mul]
  generalize x.toNat * 2 ^ k = z
  omega
theorem r_shr7 : n32 x / (128 : Int) = n32 (x >>> 7) := r_shr x 7
theorem r_shr8 : n32 x / (256 : Int) = n32 (x >>> 8) := r_shr x 8
theorem r_shr12 : n32 x / (4096 : Int) = n32 (x >>> 12) := r_shr x 12
theorem r_shr16 : n32 x / (65536 : Int) = n32 (x >>> 16) := r_shr x 16
theorem r_shr20 : n32 x / (1048576 : Int) = n32 (x >>> 20) := r_shr x 20
theorem r_shr24 : n32 x / (16777216 : Int) = n32 (x >>> 24) := r_shr x 24
theorem r_shr25 : n32 x / (33554432 : Int) = n32 (x >>> 25) := r_shr x 25
theorem r_shl7 : n32 x * (128 : Int) % (4294967296 : Int) = n32 (x <<< 7) := r_shl x 7
theorem r_shl8 : n32 x * (256 : Int) % (4294967296 : Int) = n32 (x <<< 8) := r_shl x 8
theorem r_shl12 : n32 x * (4096 : Int) % (4294967296 : Int) = n32 (x <<< 12) := r_shl x 12
theorem r_shl16 : n32 x * (65536 : Int) % (4294967296 : Int) = n32 (x <<< 16) := r_shl x 16
theorem r_shl20 : n32 x * (1048576 : Int) % (4294967296 : Int) = n32 (x <<< 20) := r_shl x 20
theorem r_shl24 : n32 x * (16777216 : Int) % (4294967296 : Int) = n32 (x <<< 24) := r_shl x 24
theorem r_shl25 : n32 x * (33554432 : Int) % (4294967296 : Int) = n32 (x <<< 25) := r_shl x 25
theorem r_conv : n8 c % (4294967296 : Int) = n32 (oc c) := by
  have := c.toNat_lt
  unfold n8 n32
  simp [oc]
  omega
theorem r_low : n32 x % (256 : Int) = n8 (⟨x.setWidth 8⟩ : UInt8) := by
  unfold n8 n32
  show _ = ((x.setWidth 8).toNat : Int)
  rw [BitVec.toNat_setWidth]
  omega
theorem r_small : n8 c % (256 : Int) = n8 c := by
  unfold n8
  have := c.toNat_lt
  omega
end
end Go.Proofs.YthkccpemgmpadaaGreatDoor

namespace Go.Proofs.YthkccpemgmpadaaGreatDoor
set_option maxRecDepth 100000
open Go.RowKit
structure Only (g : Nat) (w w' : World) : Prop where
  os : w'.os = w.os
  tape : w'.tape = w.tape
  output : w'.output = w.output
  size : w'.heap.size = w.heap.size
  block : ∀ k, k ≠ g → w'.heap[k]? = w.heap[k]?
theorem Only.below {g B : Nat} {w w' : World} (h : Only g w w') (hB : B ≤ g) : Below B w w' := ⟨h.os, h.tape, h.output, Nat.le_of_eq h.size.symm, fun k hk => h.block k (by omega)⟩
theorem own_fresh (w : World) (base g : Nat) (e : TypeId) (size c : Nat) (cs : Array Value) (hg : g = w.heap.size) (hb : base ≤ w.heap.size) (hc : c ≤ maxLen) (hs : cs.size = c * size) :
    (w.alloc (.cells cs e)).ownsRow base e size (.slice (some ⟨g, 0, none⟩) 0 c) 0 [] := by
  subst hg
  exact ⟨by simp, .inr ⟨w.heap.size, c, cs, rfl, hb, heap_alloc_new w _, Nat.zero_le _, hc, hs, by simp⟩⟩
theorem own_drew {w : World} {base : Nat} {e : TypeId} {size : Nat} {v : Value} {n : Nat} {xs : List Value} (h : w.ownsRow base e size v n xs) : w.drew.ownsRow base e size v n xs := h
theorem own_base {w : World} {base : Nat} {e : TypeId} {size : Nat} {v : Value} {n : Nat} {xs : List Value} (h : w.ownsRow base e size v n xs) : ∀ k, v.ownBlock = some k → base ≤ k := by
  intro k hk
  rcases h.2 with ⟨rfl, _⟩ | ⟨g, cap, cur, rfl, hb, _⟩
  · simp [Value.ownBlock] at hk
  · simp [Value.ownBlock] at hk; omega
theorem Blk.only {g g' : Nat} {t : TypeId} {cs : Array Value} {w w' : World} (h : Blk w g' t cs) (ho : Only g w w') (hne : g' ≠ g) : Blk w' g' t cs := (ho.block g' hne).trans h
theorem run_copyN {P : Program} (w : World) (dT sT ty elem : TypeId) (k : Nat) (hu : P.underlying dT = some (.slice elem)) (hsz : (P.info? elem).map (·.size) = some k)
    (dp sp : Option Addr) (dLen dCap sLen sCap : Nat) (g off : Nat) (cur : List Value) (t : TypeId) (hg : Blk w g t cur.toArray) (cs : List Value) (m : Nat) (hm : m = Nat.min sLen dLen) (hn : cs.length = m * k)
    (hpos : 0 < cs.length → dp = some ⟨g, off, none⟩ ∧ SrcOk w sp cs.length cs) (hfit : off + cs.length ≤ cur.length) (h1 : ∀ v ∈ cs, v.oneCell' = true) :
    ∃ w', (Builtin.copy_ #[dT, sT] ty #[.slice dp dLen dCap, .slice sp sLen sCap]).run P w = .ok (goInt m) w' ∧ Blk w' g t (splice cur off cs).toArray ∧ Only g w w' := by
  cases hq : P.info? elem with
  | none => simp [hq] at hsz
  | some i =>
    have hi : i.size = k := by simpa [hq] using hsz
    by_cases h0 : cs.length = 0
    · obtain rfl : cs = [] := List.eq_nil_of_length_eq_zero h0
      have hl : ∀ (x : Addr), (loadCells x 0).run P w = .ok #[] w := fun x => by simpa using run_loadCells_list (P := P) w x [] (by simp)
      have hmk : m * k = 0 := by simpa using hn.symm
      refine ⟨w, ?_, by simpa [splice] using hg, ⟨rfl, rfl, rfl, rfl, fun _ _ => rfl⟩⟩
      cases dp <;> cases sp <;> simp [Builtin.copy_, run_underlying hu, Builtin.lenOf, Builtin.firstCells, sizeOf, typeInfo, hq, hi, ← hm, hmk, storeCells, hl]
    · obtain ⟨rfl, hs⟩ := hpos (by omega)
      obtain ⟨ad, rfl, hsrc⟩ := hs (by omega)
      have hl := run_loadCells_list (P := P) w ad cs hsrc
      have hst := run_storeCells_at P g off t cs 0 cur.toArray w hg (by simpa using hfit) h1
      refine ⟨w.setRow g (cur.take off ++ cs ++ cur.drop (off + cs.length)).toArray, ?_, ?_, ?_⟩
      · simp [Builtin.copy_, run_underlying hu, Builtin.lenOf, Builtin.firstCells, sizeOf, typeInfo, hq, hi, ← hm, ← hn, hl, hst]
      · have := setRow_heap w g _ (splice cur off cs).toArray t _ hg
        simpa [Blk, splice] using this
      · exact ⟨rfl, rfl, rfl, by simp [World.setRow], fun j hj => setRow_other w g j _ hj⟩
theorem step_copyN {P : Program} {ops : Array Oper} {o : Oper} {a : Act} {w : World} {K : Act → World → Prop} {Q : Exit → Act → World → Prop} {E : Prop} (hgd : o.guard = none) (d s : Operand) (dT sT : TypeId)
    (ho : o.op = .call { callee := .builtin .copy, args := #[d, s], argTypes := #[dT, sT] }) (elem : TypeId) (k : Nat) (hu : P.underlying dT = some (.slice elem)) (hsz : (P.info? elem).map (·.size) = some k)
    (dp sp : Option Addr) (dLen dCap sLen sCap : Nat) (hd : a.eval d = .slice dp dLen dCap) (hs : a.eval s = .slice sp sLen sCap)
    (g off : Nat) (cur : List Value) (t : TypeId) (hg : Blk w g t cur.toArray) (cs : List Value) (m : Nat) (hm : m = Nat.min sLen dLen) (hn : cs.length = m * k)
    (hpos : 0 < cs.length → dp = some ⟨g, off, none⟩ ∧ SrcOk w sp cs.length cs) (hfit : off + cs.length ≤ cur.length) (h1 : ∀ v ∈ cs, v.oneCell' = true)
    (h : ∀ w', Hid (Blk w' g t (splice cur off cs).toArray) → Only g w w' → K (a.put o.dst (goInt m)) w') :
    if Region.wanted o (yielded ops a.tmps) = true then Oper.wp P o a w K Q else E := by
  have hw : Region.wanted o (yielded ops a.tmps) = true := by simp [Region.wanted, hgd]
  rw [if_pos hw]
  obtain ⟨w', hrun, hb, ho'⟩ := run_copyN (P := P) w dT sT o.type elem k hu hsz dp sp dLen dCap sLen sCap g off cur t hg cs m hm hn hpos hfit h1
  unfold Oper.wp
  simp [execOp, ho, resolve, invoke, builtin, hd, hs, hrun, Result.andThen]
  exact h _ hb ho'
theorem wpList_copyN {P : Program} {ops : Array Oper} {rest : List Oper} {o : Oper} {a : Act} {w : World} {Q : Exit → Act → World → Prop} (hgd : o.guard = none) (d s : Operand) (dT sT : TypeId)
    (ho : o.op = .call { callee := .builtin .copy, args := #[d, s], argTypes := #[dT, sT] }) (elem : TypeId) (k : Nat) (hu : P.underlying dT = some (.slice elem)) (hsz : (P.info? elem).map (·.size) = some k)
    (dp sp : Option Addr) (dLen dCap sLen sCap : Nat) (hd : a.eval d = .slice dp dLen dCap) (hs : a.eval s = .slice sp sLen sCap)
    (g off : Nat) (cur : List Value) (t : TypeId) (hg : Blk w g t cur.toArray) (cs : List Value) (m : Nat) (hm : m = Nat.min sLen dLen) (hn : cs.length = m * k)
    (hpos : 0 < cs.length → dp = some ⟨g, off, none⟩ ∧ SrcOk w sp cs.length cs) (hfit : off + cs.length ≤ cur.length) (h1 : ∀ v ∈ cs, v.oneCell' = true)
    (h : ∀ w', Hid (Blk w' g t (splice cur off cs).toArray) → Only g w w' → wpList P ops Q rest (a.put o.dst (goInt m)) w') : wpList P ops Q (o :: rest) a w := by
  refine wpList_plain hgd fun K hK => ?_
  have h2 := step_copyN (P := P) (ops := ops) (o := o) (a := a) (w := w) (K := K) (Q := Q) (E := False) hgd d s dT sT ho elem k hu hsz dp sp dLen dCap sLen sCap hd hs g off cur t hg cs m hm hn hpos hfit h1 (fun w' a1 a2 => hK _ _ (h w' a1 a2))
  have hw : Region.wanted o (yielded ops a.tmps) = true := by simp [Region.wanted, hgd]
  rw [if_pos hw] at h2
  exact h2
theorem SrcOk.blk {w : World} {g off m : Nat} {t : TypeId} {cur : List Value} {cs : List Value} (hg : Blk w g t cur.toArray) (h : ∀ j u, cs[j]? = some u → cur[off + j]? = some u) : SrcOk w (some ⟨g, off, none⟩) m cs := fun _ => by
  refine ⟨_, rfl, fun j u hu => ?_⟩
  have := h j u hu
  have hc := (hg.cell (off + j)).trans (by simpa using this)
  unfold Addr.add
  split
  · rename_i h0; subst h0; simpa using hc
  · exact hc
end Go.Proofs.YthkccpemgmpadaaGreatDoor

namespace Go.Proofs.YthkccpemgmpadaaGreatDoor
set_option maxRecDepth 100000
open Go.RowKit
structure Tab (w : World) : Prop where
  lt : 0 < w.heap.size
  c0 : w.cell? ⟨0, 0, none⟩ = some (.int .i64 16)
  c1 : w.cell? ⟨0, 1, none⟩ = some (.int .i64 12)
  c2 : w.cell? ⟨0, 2, none⟩ = some (.int .i64 8)
  c3 : w.cell? ⟨0, 3, none⟩ = some (.int .i64 7)
theorem Tab.below {w w' : World} {B : Nat} (h : Tab w) (hb : Below B w w') (hB : w.heap.size ≤ B) : Tab w' :=
  have h0 : 0 < B := Nat.lt_of_lt_of_le h.lt hB
  ⟨Nat.lt_of_lt_of_le h.lt hb.size, (hb.cell (p := ⟨0, 0, none⟩) h0).trans h.c0, (hb.cell (p := ⟨0, 1, none⟩) h0).trans h.c1, (hb.cell (p := ⟨0, 2, none⟩) h0).trans h.c2, (hb.cell (p := ⟨0, 3, none⟩) h0).trans h.c3⟩
section
attribute [local go_sem] r_or r_shr7 r_shr8 r_shr12 r_shr16 r_shr20 r_shr24 r_shr25 r_shl7 r_shl8 r_shl12 r_shl16 r_shl20 r_shl24 r_shl25
set_option maxHeartbeats 400000 in
theorem rotl7_any (x : Reg) (w : World) : Calls Tryz.prog 145 #[u32v x, .int .i64 7] w fun e w' => e = .returned (u32v (rot x 7)) ∧ w = w' := by
  have hk : bits BinOp.and IntKind.u64 7 31 = 7 := by kernel_rfl
  go_enter Tryz.func145, Tryz.ntmps145
  go_wp2
  go_ret
  exact ⟨rfl, rfl⟩
set_option maxHeartbeats 400000 in
theorem turned7_any (x : Reg) (w : World) : Calls Tryz.prog 138 #[u32v x, .int .i64 7] w fun e w' => e = .returned (u32v (rot x 7)) ∧ ∃ m, w' = w.drewN m := by
  go_enter Tryz.func138, Tryz.ntmps138
  go_wp2_with (fail)
  go_quiet (fail)
  go_wp2
  go_ret
  exact ⟨rfl, _, rfl⟩
set_option maxHeartbeats 400000 in
theorem rotl8_any (x : Reg) (w : World) : Calls Tryz.prog 145 #[u32v x, .int .i64 8] w fun e w' => e = .returned (u32v (rot x 8)) ∧ w = w' := by
  have hk : bits BinOp.and IntKind.u64 8 31 = 8 := by kernel_rfl
  go_enter Tryz.func145, Tryz.ntmps145
  go_wp2
  go_ret
  exact ⟨rfl, rfl⟩
set_option maxHeartbeats 400000 in
theorem turned8_any (x : Reg) (w : World) : Calls Tryz.prog 138 #[u32v x, .int .i64 8] w fun e w' => e = .returned (u32v (rot x 8)) ∧ ∃ m, w' = w.drewN m := by
  go_enter Tryz.func138, Tryz.ntmps138
  go_wp2_with (fail)
  go_quiet (fail)
  go_wp2
  go_ret
  exact ⟨rfl, _, rfl⟩
set_option maxHeartbeats 400000 in
theorem rotl12_any (x : Reg) (w : World) : Calls Tryz.prog 145 #[u32v x, .int .i64 12] w fun e w' => e = .returned (u32v (rot x 12)) ∧ w = w' := by
  have hk : bits BinOp.and IntKind.u64 12 31 = 12 := by kernel_rfl
  go_enter Tryz.func145, Tryz.ntmps145
  go_wp2
  go_ret
  exact ⟨rfl, rfl⟩
set_option maxHeartbeats 400000 in
theorem turned12_any (x : Reg) (w : World) : Calls Tryz.prog 138 #[u32v x, .int .i64 12] w fun e w' => e = .returned (u32v (rot x 12)) ∧ ∃ m, w' = w.drewN m := by
  go_enter Tryz.func138, Tryz.ntmps138
  go_wp2_with (fail)
  go_quiet (fail)
  go_wp2
  go_ret
  exact ⟨rfl, _, rfl⟩
set_option maxHeartbeats 400000 in
theorem rotl16_any (x : Reg) (w : World) : Calls Tryz.prog 145 #[u32v x, .int .i64 16] w fun e w' => e = .returned (u32v (rot x 16)) ∧ w = w' := by
  have hk : bits BinOp.and IntKind.u64 16 31 = 16 := by kernel_rfl
  go_enter Tryz.func145, Tryz.ntmps145
  go_wp2
  go_ret
  exact ⟨rfl, rfl⟩
set_option maxHeartbeats 400000 in
theorem turned16_any (x : Reg) (w : World) : Calls Tryz.prog 138 #[u32v x, .int .i64 16] w fun e w' => e = .returned (u32v (rot x 16)) ∧ ∃ m, w' = w.drewN m := by
  go_enter Tryz.func138, Tryz.ntmps138
  go_wp2_with (fail)
  go_quiet (fail)
  go_wp2
  go_ret
  exact ⟨rfl, _, rfl⟩
end
end Go.Proofs.YthkccpemgmpadaaGreatDoor

namespace Go.Proofs.YthkccpemgmpadaaGreatDoor
set_option maxRecDepth 100000
open Go.RowKit
theorem four_sum (a b c d : UInt8) : oc a + 256#32 * oc b + 65536#32 * oc c + 16777216#32 * oc d = oc a ||| oc b <<< 8 ||| oc c <<< 16 ||| oc d <<< 24 := by
  have e : ∀ (x : UInt8), (oc x).toNat = x.toNat := fun x => by
    have := x.toNat_lt
    simp [oc]
  have ha := a.toNat_lt; have hb := b.toNat_lt; have hc := c.toNat_lt; have hd := d.toNat_lt
  apply BitVec.eq_of_toNat_eq
  have o1 : (oc a ||| oc b <<< 8).toNat = a.toNat + 256 * b.toNat := by
    rw [BitVec.toNat_or, BitVec.toNat_shiftLeft, e, e, Nat.shiftLeft_eq, Nat.mod_eq_of_lt (by omega), Nat.or_comm, Nat.mul_comm, ← Nat.two_pow_add_eq_or_of_lt (by omega)]
    omega
  have o2 : (oc a ||| oc b <<< 8 ||| oc c <<< 16).toNat = a.toNat + 256 * b.toNat + 65536 * c.toNat := by
    rw [BitVec.toNat_or, o1, BitVec.toNat_shiftLeft, e, Nat.shiftLeft_eq, Nat.mod_eq_of_lt (by omega), Nat.or_comm, Nat.mul_comm c.toNat, ← Nat.two_pow_add_eq_or_of_lt (by omega)]
    omega
  have o3 : (oc a ||| oc b <<< 8 ||| oc c <<< 16 ||| oc d <<< 24).toNat = a.toNat + 256 * b.toNat + 65536 * c.toNat + 16777216 * d.toNat := by
    rw [BitVec.toNat_or, o2, BitVec.toNat_shiftLeft, e, Nat.shiftLeft_eq, Nat.mod_eq_of_lt (by omega), Nat.or_comm, Nat.mul_comm d.toNat, ← Nat.two_pow_add_eq_or_of_lt (by omega)]
    omega
  rw [o3]
  simp only [BitVec.toNat_add, BitVec.toNat_mul, BitVec.toNat_ofNat, e]
  omega
theorem Bs.four {lo hi : Nat} {w : World} {v : Value} {l : List UInt8} (h : Bs lo hi w v l) (h4 : 4 ≤ l.length) : ∃ b off c a0 a1 a2 a3 r, l = a0 :: a1 :: a2 :: a3 :: r ∧ v = .slice (some ⟨b, off, none⟩) l.length c ∧
    w.cell? ⟨b, off, none⟩ = some (u8v a0) ∧ w.cell? ⟨b, off + 1, none⟩ = some (u8v a1) ∧ w.cell? ⟨b, off + 2, none⟩ = some (u8v a2) ∧ w.cell? ⟨b, off + 3, none⟩ = some (u8v a3) := by
  obtain ⟨A, c, rfl, h1, h2, h3⟩ := h
  obtain ⟨b, off, rfl, _, _, hc⟩ := h3 (by omega)
  match l, h4 with
  | a0 :: a1 :: a2 :: a3 :: r, _ =>
    exact ⟨b, off, c, a0, a1, a2, a3, r, rfl, rfl, hc 0 (by simp), hc 1 (by simp), hc 2 (by simp), hc 3 (by simp)⟩
section
attribute [local go_sem] r_or r_add r_mul1 r_mul2 r_mul3 r_shl8 r_shl16 r_shl24 r_conv
set_option maxHeartbeats 400000 in
theorem number_any (lo hi : Nat) (v : Value) (l : List UInt8) (w : World) (h : Bs lo hi w v l) (h4 : 4 ≤ l.length) : Calls Tryz.prog 106 #[v] w fun e w' => e = .returned (u32v (four l)) ∧ ∃ m, w' = w.drewN m := by
  obtain ⟨b, off, c, a0, a1, a2, a3, r, e, rfl, c0, c1, c2, c3⟩ := h.four h4
  have hf : four l = oc a0 ||| oc a1 <<< 8 ||| oc a2 <<< 16 ||| oc a3 <<< 24 := by rw [e]; rfl
  have hn : (4 : Int) ≤ (l.length : Int) := by omega
  rw [hf]
  generalize l.length = n at *
  clear e hf h h4
  have n0 : (0 : Int) < (n : Int) := by omega
  have n1 : (1 : Int) < (n : Int) := by omega
  have n2 : (2 : Int) < (n : Int) := by omega
  have n3 : (3 : Int) < (n : Int) := by omega
  have d0 : 0 < n := by omega
  have d1 : 1 < n := by omega
  have d2 : 2 < n := by omega
  have d3 : 3 < n := by omega
  go_enter Tryz.func106, Tryz.ntmps106
  go_wp2_with (fail)
  go_quiet (fail)
  go_wp2
  go_ret
  exact ⟨rfl, _, rfl⟩
set_option maxHeartbeats 400000 in
theorem fourR_any (lo hi : Nat) (v : Value) (l : List UInt8) (w : World) (h : Bs lo hi w v l) (h4 : 4 ≤ l.length) : Calls Tryz.prog 76 #[v] w fun e w' => e = .returned (u32v (four l)) ∧ ∃ m, w' = w.drewN m := by
  obtain ⟨b, off, c, a0, a1, a2, a3, r, e, rfl, c0, c1, c2, c3⟩ := h.four h4
  have hf : four l = oc a0 + 256#32 * oc a1 + 65536#32 * oc a2 + 16777216#32 * oc a3 := by rw [e, four_sum]; rfl
  have hn : (4 : Int) ≤ (l.length : Int) := by omega
  rw [hf]
  generalize l.length = n at *
  clear e hf h h4
  have n0 : (0 : Int) < (n : Int) := by omega
  have n1 : (1 : Int) < (n : Int) := by omega
  have n2 : (2 : Int) < (n : Int) := by omega
  have n3 : (3 : Int) < (n : Int) := by omega
  have d0 : 0 < n := by omega
  have d1 : 1 < n := by omega
  have d2 : 2 < n := by omega
  have d3 : 3 < n := by omega
  go_enter Tryz.func76, Tryz.ntmps76
  go_wp2_with (fail)
  go_quiet (fail)
  go_wp2
  go_ret
  exact ⟨rfl, _, rfl⟩
end
end Go.Proofs.YthkccpemgmpadaaGreatDoor
