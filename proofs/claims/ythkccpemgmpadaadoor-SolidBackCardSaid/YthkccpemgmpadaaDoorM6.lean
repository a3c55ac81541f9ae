import Derived.Test.YthkccpemgmpadaaDoorProg
import Derived.WalkKit
import Derived.Handy
import Derived.Lib.SliceRun
import Derived.WalkSpells
import Derived.WalkLawsBesides
import Derived.Lib.Hide
import Derived.Deep.QuietTactic
import Derived.BigQuiet
import Derived.Deep.RegionHeld3
import Derived.Laws.CopyOwn
import Derived.Deep.AppendLies
import Derived.Deep.LoopGhost
import Derived.StillTailTactics
import Derived.Laws.BitsAllLaws
import Derived.Lib.Bytes
import Derived.Lib.AppendZeros
import Derived.Deep.DeepCutAuto
import Derived.Laws.StructEq
import Derived.Laws.Cover3
namespace Go.Proofs.YthkccpemgmpadaaDoor
set_option maxRecDepth 100000

/-- A number of 32 bits. -/
abbrev Wd := BitVec 32
abbrev Reg := BitVec 32
/-- A state. -/
structure St where
  a : Wd
  b : Wd
  c : Wd
  d : Wd
theorem St.eq {s t : St} (h0 : s.a = t.a) (h1 : s.b = t.b) (h2 : s.c = t.c) (h3 : s.d = t.d) : s = t := by cases s; cases t; simp_all
instance : DecidableEq St := fun s t =>
  if h : s.a = t.a ∧ s.b = t.b ∧ s.c = t.c ∧ s.d = t.d then isTrue (St.eq h.1 h.2.1 h.2.2.1 h.2.2.2) else isFalse (by rintro rfl; exact h ⟨rfl, rfl, rfl, rfl⟩)

/-- Turned by 'k'. -/
def rot (x : Wd) (k : Nat) : Wd := x <<< k ||| x >>> (32 - k)
theorem rot_rot (x : Wd) (k : Nat) (h0 : 0 < k) (h : k < 32) : rot (rot x k) (32 - k) = x := by
  unfold rot
  apply BitVec.eq_of_getLsbD_eq
  intro i hi
  simp only [BitVec.getLsbD_or, BitVec.getLsbD_shiftLeft, BitVec.getLsbD_ushiftRight]
  have e : 32 - (32 - k) = k := by omega
  rw [e]
  by_cases h1 : i < 32 - k
  · have a1 : k + i < 32 := by omega
    have a2 : ¬ k + i < k := by omega
    have a3 : k + i - k = i := by omega
    have a4 : x.getLsbD (32 - k + (k + i)) = false := BitVec.getLsbD_of_ge _ _ (by omega)
    simp [h1, a1, a2, a3, a4]
  · have a1 : i - (32 - k) < 32 := by omega
    have a2 : i - (32 - k) < k := by omega
    have a3 : 32 - k + (i - (32 - k)) = i := by omega
    have a4 : ¬ k + i < 32 := by omega
    have a5 : x.getLsbD (32 - k + (k + i)) = false := BitVec.getLsbD_of_ge _ _ (by omega)
    simp [hi, h1, a2, a3, a4, a5]
theorem rot_16 (x : Wd) : rot (rot x 16) 16 = x := rot_rot x 16 (by omega) (by omega)
theorem rot_12 (x : Wd) : rot (rot x 12) 20 = x := rot_rot x 12 (by omega) (by omega)
theorem rot_20 (x : Wd) : rot (rot x 20) 12 = x := rot_rot x 20 (by omega) (by omega)
theorem rot_8 (x : Wd) : rot (rot x 8) 24 = x := rot_rot x 8 (by omega) (by omega)
theorem rot_24 (x : Wd) : rot (rot x 24) 8 = x := rot_rot x 24 (by omega) (by omega)
theorem rot_7 (x : Wd) : rot (rot x 7) 25 = x := rot_rot x 7 (by omega) (by omega)
theorem rot_25 (x : Wd) : rot (rot x 25) 7 = x := rot_rot x 25 (by omega) (by omega)
theorem xor2 (x y : Wd) : x ^^^ y ^^^ y = x := by rw [BitVec.xor_assoc, BitVec.xor_self, BitVec.xor_zero]
theorem add_sub (x y : Wd) : x + y - y = x := BitVec.add_sub_cancel x y
theorem sub_add (x y : Wd) : x - y + y = x := BitVec.sub_add_cancel x y

def kon (k : Nat) : Wd := (BitVec.ofNat 32 k + 1#32) * 2654435769#32
/-- A round. -/
def rnd (k : Nat) (s : St) : St :=
  let a1 := s.a + s.b
  let d1 := rot (s.d ^^^ a1) 16
  let c1 := s.c + d1
  let b1 := rot (s.b ^^^ c1) 12
  let a2 := a1 + b1
  let d2 := rot (d1 ^^^ a2) 8
  let c2 := c1 + d2
  let b2 := rot (b1 ^^^ c2) 7
  ⟨b2, c2, d2, a2 ^^^ kon k⟩
/-- It taken back. -/
def unr (k : Nat) (s : St) : St :=
  let a2 := s.d ^^^ kon k
  let b1 := rot s.a 25 ^^^ s.b
  let c1 := s.b - s.c
  let d1 := rot s.c 24 ^^^ a2
  let a1 := a2 - b1
  let b := rot b1 20 ^^^ c1
  let c := c1 - d1
  let d := rot d1 16 ^^^ a1
  ⟨a1 - b, b, c, d⟩
theorem unr_rnd (k : Nat) (s : St) : unr k (rnd k s) = s := by
  simp only [unr, rnd, xor2, rot_7, rot_8, rot_12, rot_16, add_sub]
theorem rnd_unr (k : Nat) (s : St) : rnd k (unr k s) = s := by
  simp only [unr, rnd, xor2, rot_25, rot_24, rot_20, rot_16, sub_add]
/-- The first 'k' rounds. -/
def rnds : Nat → St → St
  | 0, s => s
  | k + 1, s => rnd k (rnds k s)
/-- The last of 'k' rounds taken back first. -/
def unrs : Nat → St → St
  | 0, s => s
  | k + 1, s => unrs k (unr k s)
def permF (s : St) : St := rnds 8 s
def backF (s : St) : St := unrs 8 s
theorem unrs_rnds (k : Nat) (s : St) : unrs k (rnds k s) = s := by
  induction k with
  | zero => rfl
  | succ k ih => rw [rnds, unrs, unr_rnd, ih]
theorem rnds_unrs (k : Nat) (s : St) : rnds k (unrs k s) = s := by
  induction k generalizing s with
  | zero => rfl
  | succ k ih => rw [unrs, rnds, ih, rnd_unr]
theorem back_perm (s : St) : backF (permF s) = s := unrs_rnds 8 s
theorem perm_back (s : St) : permF (backF s) = s := rnds_unrs 8 s
theorem perm_inj {s t : St} : permF s = permF t ↔ s = t := ⟨fun h => by rw [← back_perm s, h, back_perm], fun h => by rw [h]⟩

/-! ### octets -/
/-- An octet as a number. -/
def oc (c : UInt8) : Wd := c.toBitVec.setWidth 32
/-- The number of four octets. -/
def four (l : List UInt8) : Wd := oc (l.getD 0 0) ||| oc (l.getD 1 0) <<< 8 ||| oc (l.getD 2 0) <<< 16 ||| oc (l.getD 3 0) <<< 24
/-- A number's four octets. -/
def oct (x : Wd) : List UInt8 := [⟨x.setWidth 8⟩, ⟨(x >>> 8).setWidth 8⟩, ⟨(x >>> 16).setWidth 8⟩, ⟨(x >>> 24).setWidth 8⟩]
theorem oct_len (x : Wd) : (oct x).length = 4 := rfl
theorem four_app (x : Wd) (r : List UInt8) : four (oct x ++ r) = x := by
  show (x.setWidth 8).setWidth 32 ||| ((x >>> 8).setWidth 8).setWidth 32 <<< 8 ||| ((x >>> 16).setWidth 8).setWidth 32 <<< 16 ||| ((x >>> 24).setWidth 8).setWidth 32 <<< 24 = x
  apply BitVec.eq_of_getLsbD_eq
  intro i hi
  simp only [BitVec.getLsbD_or, BitVec.getLsbD_shiftLeft, BitVec.getLsbD_ushiftRight, BitVec.getLsbD_setWidth]
  rcases Nat.lt_or_ge i 8 with h | h
  · have b1 : i < 16 := by omega
    have b2 : i < 24 := by omega
    simp [h, b1, b2, hi]
  · rcases Nat.lt_or_ge i 16 with h1 | h1
    · have b2 : i < 24 := by omega
      have c0 : ¬ i < 8 := by omega
      have c1 : i - 8 < 32 := by omega
      have c2 : i - 8 < 8 := by omega
      have c3 : 8 + (i - 8) = i := by omega
      simp [h1, b2, hi, c0, c1, c2, c3]
    · rcases Nat.lt_or_ge i 24 with h2 | h2
      · have c0 : ¬ i < 8 := by omega
        have c1 : ¬ i < 16 := by omega
        have d1 : ¬ i - 8 < 8 := by omega
        have c2 : i - 16 < 8 := by omega
        have c4 : i - 16 < 32 := by omega
        have c3 : 16 + (i - 16) = i := by omega
        simp [h2, hi, c0, c1, c2, c3, c4, d1]
      · have c0 : ¬ i < 8 := by omega
        have c1 : ¬ i < 16 := by omega
        have c5 : ¬ i < 24 := by omega
        have d1 : ¬ i - 8 < 8 := by omega
        have d2 : ¬ i - 16 < 8 := by omega
        have c2 : i - 24 < 8 := by omega
        have c4 : i - 24 < 32 := by omega
        have c3 : 24 + (i - 24) = i := by omega
        simp [hi, c0, c1, c5, c2, c3, c4, d1, d2]
theorem four_bits (a b c d : UInt8) (i : Nat) (hi : i < 8) : (four [a, b, c, d]).getLsbD i = a.toBitVec.getLsbD i ∧ (four [a, b, c, d]).getLsbD (8 + i) = b.toBitVec.getLsbD i ∧ (four [a, b, c, d]).getLsbD (16 + i) = c.toBitVec.getLsbD i ∧ (four [a, b, c, d]).getLsbD (24 + i) = d.toBitVec.getLsbD i := by
  have z : ∀ (x : UInt8) (j : Nat), 8 ≤ j → x.toBitVec.getLsbD j = false := fun x j h => BitVec.getLsbD_of_ge _ _ h
  have e : four [a, b, c, d] = a.toBitVec.setWidth 32 ||| b.toBitVec.setWidth 32 <<< 8 ||| c.toBitVec.setWidth 32 <<< 16 ||| d.toBitVec.setWidth 32 <<< 24 := rfl
  rw [e]
  simp only [BitVec.getLsbD_or, BitVec.getLsbD_shiftLeft, BitVec.getLsbD_setWidth]
  refine ⟨?_, ?_, ?_, ?_⟩
  · have b0 : i < 32 := by omega
    have b1 : i < 16 := by omega
    have b2 : i < 24 := by omega
    simp [b0, b1, b2, hi]
  · have b0 : 8 + i < 32 := by omega
    have b1 : 8 + i < 16 := by omega
    have b2 : 8 + i < 24 := by omega
    have c1 : i < 32 := by omega
    simp [b0, b1, b2, hi, c1]
  · have b0 : 16 + i < 32 := by omega
    have b2 : 16 + i < 24 := by omega
    have c1 : i < 32 := by omega
    have c2 : 16 + i - 8 = 8 + i := by omega
    simp [b0, b2, hi, c1, c2, z a (16 + i) (by omega)]
  · have b0 : 24 + i < 32 := by omega
    have c1 : i < 32 := by omega
    have c2 : 24 + i - 8 = 16 + i := by omega
    have c3 : 24 + i - 16 = 8 + i := by omega
    simp [b0, hi, c1, c2, c3, z a (24 + i) (by omega), z b (16 + i) (by omega)]
theorem oct_four {l : List UInt8} (hl : l.length = 4) : oct (four l) = l := by
  match l, hl with
  | [a, b, c, d], _ =>
    have f := four_bits a b c d
    generalize four [a, b, c, d] = x at *
    have q : ∀ {y : BitVec 8} {u : UInt8}, (∀ i, i < 8 → y.getLsbD i = u.toBitVec.getLsbD i) → (⟨y⟩ : UInt8) = u := fun {y u} h => by
      cases u; congr 1; exact BitVec.eq_of_getLsbD_eq h
    unfold oct
    rw [q (u := a) (y := x.setWidth 8), q (u := b) (y := (x >>> 8).setWidth 8), q (u := c) (y := (x >>> 16).setWidth 8), q (u := d) (y := (x >>> 24).setWidth 8)]
    all_goals
      intro i hi
      obtain ⟨f0, f1, f2, f3⟩ := f i hi
      simp only [BitVec.getLsbD_setWidth, BitVec.getLsbD_ushiftRight, hi, decide_true, Bool.true_and]
      assumption
theorem four_inj {l m : List UInt8} (hl : l.length = 4) (hl' : m.length = 4) (e : four l = four m) : l = m := by rw [← oct_four hl, e, oct_four hl']
def octs4 (s : St) : List UInt8 := oct s.a ++ oct s.b ++ oct s.c ++ oct s.d
def ofF (l : List UInt8) : St := ⟨four (l.take 4), four ((l.drop 4).take 4), four ((l.drop 8).take 4), four (l.drop 12)⟩
theorem four_take (x : Wd) (r : List UInt8) : four ((oct x ++ r).take 4) = x := by
  have : (oct x ++ r).take 4 = oct x := by simp [oct]
  rw [this]; simpa using four_app x []
theorem of_octs (s : St) : ofF (octs4 s) = s := by
  refine St.eq ?_ ?_ ?_ ?_
  · show four ((octs4 s).take 4) = s.a
    unfold octs4; rw [List.append_assoc, List.append_assoc]; exact four_take _ _
  · show four (((octs4 s).drop 4).take 4) = s.b
    have : (octs4 s).drop 4 = oct s.b ++ (oct s.c ++ oct s.d) := by simp [octs4, oct]
    rw [this]; exact four_take _ _
  · show four (((octs4 s).drop 8).take 4) = s.c
    have : (octs4 s).drop 8 = oct s.c ++ oct s.d := by simp [octs4, oct]
    rw [this]; exact four_take _ _
  · show four ((octs4 s).drop 12) = s.d
    have : (octs4 s).drop 12 = oct s.d := by simp [octs4, oct]
    rw [this]; simpa using four_app s.d []
theorem octs_len (s : St) : (octs4 s).length = 16 := rfl
theorem octs_of {l : List UInt8} (hl : l.length = 16) : octs4 (ofF l) = l := by
  unfold octs4 ofF
  simp only []
  rw [oct_four (by simp; omega), oct_four (by simp; omega), oct_four (by simp; omega), oct_four (by simp; omega)]
  match l, hl with
  | [a0, a1, a2, a3, a4, a5, a6, a7, a8, a9, a10, a11, a12, a13, a14, a15], _ => rfl
/-- A number of as many octets as one likes: of the first four alone. -/
theorem four_take4 (l : List UInt8) : four (l.take 4) = four l := by
  unfold four
  simp [List.getD_eq_getElem?_getD]

/-! ### absorbing -/
/-- Eight octets taken in. -/
def inF (s : St) (l : List UInt8) : St := permF { s with a := s.a ^^^ four (l.take 4), b := s.b ^^^ four ((l.drop 4).take 4) }
/-- 'n' times eight octets. -/
def absF : Nat → St → List UInt8 → St
  | 0, s, _ => s
  | n + 1, s, l => absF n (inF s l) (l.drop 8)
/-- A text with 128 behind it, and zeros up to a whole eight. -/
def padF (l : List UInt8) : List UInt8 := l ++ 128 :: List.replicate (7 - l.length % 8) 0
def absorbF (s : St) (l : List UInt8) : St := absF (l.length / 8 + 1) s (padF l)
theorem pad_len (l : List UInt8) : (padF l).length = (l.length / 8 + 1) * 8 := by
  simp [padF]; omega
theorem pad_drop {l : List UInt8} (h : 8 ≤ l.length) : (padF l).drop 8 = padF (l.drop 8) := by
  unfold padF
  rw [List.drop_append_of_le_length h, List.length_drop]
  congr 3
  omega
theorem pad_take {l : List UInt8} (h : 8 ≤ l.length) : (padF l).take 8 = l.take 8 := by
  unfold padF
  rw [List.take_append_of_le_length h]
theorem inF_take {s : St} {l : List UInt8} : inF s (l.take 8) = inF s l := by
  have e1 : (l.take 8).take 4 = l.take 4 := by rw [List.take_take]; rfl
  have e2 : ((l.take 8).drop 4).take 4 = (l.drop 4).take 4 := by rw [List.drop_take, List.take_take]; rfl
  unfold inF
  rw [e1, e2]
/-- P8.2: what is behind the first eight is absorbed to the state that comes of them. -/
theorem absorb_blocks {s : St} {l : List UInt8} (h : 8 ≤ l.length) : absorbF s l = absorbF (inF s l) (l.drop 8) := by
  unfold absorbF
  have e : l.length / 8 + 1 = ((l.drop 8).length / 8 + 1) + 1 := by rw [List.length_drop]; omega
  have e2 : inF s (padF l) = inF s l := by rw [← inF_take, pad_take h, inF_take]
  rw [e, absF, pad_drop h, e2]
theorem xor_inj {x y z : Wd} : x ^^^ z = y ^^^ z ↔ x = y := ⟨fun h => by rw [← xor2 x z, h, xor2], fun h => by rw [h]⟩
theorem xor_inj' {x y z : Wd} : z ^^^ x = z ^^^ y ↔ x = y := by rw [BitVec.xor_comm z x, BitVec.xor_comm z y]; exact xor_inj
theorem inF_inj {s t : St} {l : List UInt8} : inF s l = inF t l ↔ s = t := by
  unfold inF
  rw [perm_inj]
  constructor
  · intro h
    injection h with h1 h2 h3 h4
    exact St.eq (xor_inj.1 h1) (xor_inj.1 h2) h3 h4
  · rintro rfl; rfl
theorem absF_inj {n : Nat} {s t : St} {l : List UInt8} : absF n s l = absF n t l ↔ s = t := by
  induction n generalizing s t l with
  | zero => exact Iff.rfl
  | succ n ih => rw [absF, absF, ih, inF_inj]
theorem absorb_inj {s t : St} {l : List UInt8} : absorbF s l = absorbF t l ↔ s = t := absF_inj
/-- Of texts of fewer than eight octets no two bring one state to the same. -/
theorem pad_inj {l m : List UInt8} (hl : l.length < 8) (hm : m.length < 8) (h : padF l = padF m) : l = m := by
  rcases Nat.lt_trichotomy l.length m.length with hlt | heq | hlt
  · exfalso
    have e1 : (padF m)[m.length]? = some 128 := by simp [padF]
    have e2 : (padF l)[m.length]? = some 0 := by
      unfold padF
      rw [List.getElem?_append_right (by omega)]
      obtain ⟨d, hd⟩ : ∃ d, m.length - l.length = d + 1 := ⟨m.length - l.length - 1, by omega⟩
      rw [hd, List.getElem?_cons_succ, List.getElem?_replicate, if_pos (by omega)]
    rw [h, e1] at e2
    cases e2
  · unfold padF at h
    exact (List.append_inj h heq).1
  · exfalso
    have e1 : (padF l)[l.length]? = some 128 := by simp [padF]
    have e2 : (padF m)[l.length]? = some 0 := by
      unfold padF
      rw [List.getElem?_append_right (by omega)]
      obtain ⟨d, hd⟩ : ∃ d, l.length - m.length = d + 1 := ⟨l.length - m.length - 1, by omega⟩
      rw [hd, List.getElem?_cons_succ, List.getElem?_replicate, if_pos (by omega)]
    rw [← h, e1] at e2
    cases e2
theorem absorb_short {s : St} {l m : List UInt8} (hl : l.length < 8) (hm : m.length < 8) : absorbF s l = absorbF s m ↔ l = m := by
  refine ⟨fun h => pad_inj hl hm ?_, fun h => by rw [h]⟩
  unfold absorbF at h
  have e1 : l.length / 8 + 1 = 1 := by omega
  have e2 : m.length / 8 + 1 = 1 := by omega
  rw [e1, e2, absF, absF, absF, absF] at h
  unfold inF at h
  rw [perm_inj] at h
  injection h with h1 h2
  have l1 := pad_len l; have l2 := pad_len m
  rw [e1] at l1; rw [e2] at l2
  have g1 := four_inj (by rw [List.length_take]; omega) (by rw [List.length_take]; omega) (xor_inj'.1 h1)
  have g2 := four_inj (by rw [List.length_take, List.length_drop]; omega) (by rw [List.length_take, List.length_drop]; omega) (xor_inj'.1 h2)
  have f : ∀ p : List UInt8, p.length = 8 → p = p.take 4 ++ (p.drop 4).take 4 := fun p hp => by
    have : (p.drop 4).take 4 = p.drop 4 := List.take_of_length_le (by rw [List.length_drop]; omega)
    rw [this, List.take_append_drop]
  rw [f (padF l) (by omega), f (padF m) (by omega), g1, g2]

/-! ### squeezing -/
/-- 'n' times eight octets. -/
def sqF : Nat → St → List UInt8
  | 0, _ => []
  | n + 1, s => oct s.a ++ oct s.b ++ sqF n (permF s)
def squeezeF (s : St) (n : Nat) : List UInt8 := (sqF ((n + 7) / 8) s).take n
theorem sqF_len (n : Nat) (s : St) : (sqF n s).length = n * 8 := by
  induction n generalizing s with
  | zero => rfl
  | succ n ih => rw [sqF, List.length_append, List.length_append, oct_len, oct_len, ih]; omega
theorem sqF_pre (n m : Nat) (s : St) (h : n ≤ m) : (sqF m s).take (n * 8) = sqF n s := by
  induction n generalizing m s with
  | zero => simp [sqF]
  | succ n ih =>
    obtain ⟨k, rfl⟩ : ∃ k, m = k + 1 := ⟨m - 1, by omega⟩
    have e8 : (oct s.a ++ oct s.b).length = 8 := rfl
    rw [sqF, sqF, List.take_append, e8, List.take_of_length_le (by rw [e8]; omega)]
    rw [show (n + 1) * 8 - 8 = n * 8 by omega, ih _ _ (by omega)]
theorem squeeze_len (s : St) (n : Nat) : (squeezeF s n).length = n := by
  unfold squeezeF
  rw [List.length_take, sqF_len]; omega
/-- P8.5: fewer octets are the beginning of more. -/
theorem squeeze_fewer (s : St) (n more : Nat) : (squeezeF s (n + more)).take n = squeezeF s n := by
  unfold squeezeF
  rw [List.take_take, Nat.min_eq_left (by omega)]
  have h := sqF_pre ((n + 7) / 8) ((n + more + 7) / 8) s (by omega)
  rw [← h, List.take_take, Nat.min_eq_left (by omega)]
/-- From the permuted state come those behind the first eight. -/
theorem squeeze_next (s : St) (n : Nat) : (squeezeF s (n + 8)).drop 8 = squeezeF (permF s) n := by
  unfold squeezeF
  have e8 : (oct s.a ++ oct s.b).length = 8 := rfl
  rw [show (n + 8 + 7) / 8 = (n + 7) / 8 + 1 by omega, sqF, List.drop_take, List.drop_append, e8, List.drop_of_length_le (by rw [e8]; omega)]
  simp

/-! ### envelopes: numbers of eight octets, streams, tags -/
abbrev Nx := BitVec 64
/-- A number's eight octets. -/
def eight (n : Nx) : List UInt8 := oct (n.setWidth 32) ++ oct ((n >>> 32).setWidth 32)
/-- The number of eight octets. -/
def of8 (l : List UInt8) : Nx := (four (l.take 4)).setWidth 64 ||| (four ((l.drop 4).take 4)).setWidth 64 <<< 32
theorem eight_len (n : Nx) : (eight n).length = 8 := rfl
theorem of8_app (n : Nx) (r : List UInt8) : of8 (eight n ++ r) = n := by
  have h1 : (eight n ++ r).take 4 = oct (n.setWidth 32) := rfl
  have h2 : ((eight n ++ r).drop 4).take 4 = oct ((n >>> 32).setWidth 32) := rfl
  have h3 : ∀ x, four (oct x) = x := fun x => by simpa using four_app x []
  unfold of8
  rw [h1, h2, h3, h3]
  apply BitVec.eq_of_getLsbD_eq
  intro i hi
  simp only [BitVec.getLsbD_or, BitVec.getLsbD_shiftLeft, BitVec.getLsbD_setWidth, BitVec.getLsbD_ushiftRight]
  by_cases h : i < 32
  · simp [h, hi]
  · have e : 32 + (i - 32) = i := by omega
    have c1 : i - 32 < 32 := by omega
    have c2 : i - 32 < 64 := by omega
    simp [h, hi, e, c1, c2]
theorem eight_of {l : List UInt8} (hl : l.length = 8) : eight (of8 l) = l := by
  have h1 : (l.take 4).length = 4 := by rw [List.length_take]; omega
  have h2 : ((l.drop 4).take 4).length = 4 := by rw [List.length_take, List.length_drop]; omega
  have g1 : (of8 l).setWidth 32 = four (l.take 4) := by
    unfold of8
    apply BitVec.eq_of_getLsbD_eq
    intro i hi
    have a1 : i < 64 := by omega
    simp [hi]
  have g2 : (of8 l >>> 32).setWidth 32 = four ((l.drop 4).take 4) := by
    unfold of8
    apply BitVec.eq_of_getLsbD_eq
    intro i hi
    have a1 : i < 64 := by omega
    have a2 : 32 + i < 64 := by omega
    have a3 : (four (l.take 4)).getLsbD (32 + i) = false := BitVec.getLsbD_of_ge _ _ (by omega)
    simp [hi, a2]
  unfold eight
  rw [g1, g2, oct_four h1, oct_four h2]
  have : (l.drop 4).take 4 = l.drop 4 := List.take_of_length_le (by rw [List.length_drop]; omega)
  rw [this, List.take_append_drop]
/-- What is ahead of what is absorbed: a number, and an octet. -/
def streamF (key : St) (n : Nx) (long : Nat) : List UInt8 := squeezeF (absorbF key (eight n ++ [1])) long
def tagF (key : St) (n : Nx) (t : List UInt8) : St := absorbF key (eight n ++ 2 :: t)
theorem stream_len (key : St) (n : Nx) (k : Nat) : (streamF key n k).length = k := squeeze_len _ _
theorem stream_fewer (key : St) (n : Nx) (k more : Nat) : (streamF key n (k + more)).take k = streamF key n k := squeeze_fewer _ _ _
/-- A text, exclusive or the stream. -/
def hidF (key : St) (n : Nx) (b : List UInt8) : List UInt8 := List.zipWith (· ^^^ ·) b (streamF key n b.length)
theorem hid_len (key : St) (n : Nx) (b : List UInt8) : (hidF key n b).length = b.length := by
  unfold hidF
  rw [List.length_zipWith, stream_len, Nat.min_self]
theorem xor_u8 (x y : UInt8) : x ^^^ y ^^^ y = x := by
  rw [UInt8.xor_assoc, UInt8.xor_self, UInt8.xor_zero]
theorem zip_twice (a s : List UInt8) (h : a.length ≤ s.length) : List.zipWith (· ^^^ ·) (List.zipWith (· ^^^ ·) a s) s = a := by
  induction a generalizing s with
  | nil => rfl
  | cons x r ih =>
    match s, h with
    | y :: s, h =>
      simp only [List.zipWith_cons_cons, xor_u8]
      rw [ih s (by simpa using h)]
theorem hid_hid (key : St) (n : Nx) (b : List UInt8) : hidF key n (hidF key n b) = b := by
  have h := hid_len key n b
  unfold hidF at *
  rw [h]
  exact zip_twice _ _ (by rw [stream_len]; omega)
theorem hid_inj {key : St} {n : Nx} {a b : List UInt8} : hidF key n a = hidF key n b ↔ a = b := ⟨fun h => by rw [← hid_hid key n a, h, hid_hid], fun h => by rw [h]⟩
theorem hid_get (key : St) (n : Nx) (b : List UInt8) (more i : Nat) (h : i < b.length) : (hidF key n b)[i]? = some (b[i] ^^^ (streamF key n (b.length + more))[i]'(by rw [stream_len]; omega)) := by
  have e := stream_fewer key n b.length more
  have e2 : (streamF key n b.length)[i]? = (streamF key n (b.length + more))[i]? := by
    rw [← e, List.getElem?_take_of_lt h]
  unfold hidF
  rw [List.getElem?_zipWith, e2, List.getElem?_eq_getElem h, List.getElem?_eq_getElem (by rw [stream_len]; omega)]
/-- Of one key and number no two texts of fewer than seven octets have one tag. -/
theorem tag_short {key : St} {n : Nx} {a b : List UInt8} (ha : a.length ≤ 6) (hb : b.length ≤ 6) : tagF key n a = tagF key n b ↔ a = b := by
  have e : ∀ t : List UInt8, tagF key n t = absorbF (inF key (eight n)) (2 :: t) := fun t => by
    unfold tagF
    rw [absorb_blocks (by rw [List.length_append, eight_len]; omega)]
    have h1 : (eight n ++ 2 :: t).drop 8 = 2 :: t := rfl
    have h2 : inF key (eight n ++ 2 :: t) = inF key (eight n) := by
      rw [← inF_take]
      have : (eight n ++ 2 :: t).take 8 = eight n := rfl
      rw [this]
    rw [h1, h2]
  rw [e, e, absorb_short (by simp; omega) (by simp; omega)]
  simp
/-! ### boxes as octets -/
structure Bx where
  n : Nx
  text : List UInt8
  tag : St
def bytesF (x : Bx) : List UInt8 := eight x.n ++ octs4 x.tag ++ x.text
def fromF (b : List UInt8) : Bx := ⟨of8 (b.take 8), b.drop 24, ofF ((b.drop 8).take 16)⟩
theorem bytes_len (x : Bx) : (bytesF x).length = x.text.length + 24 := by
  unfold bytesF
  rw [List.length_append, List.length_append, eight_len, octs_len]; omega
theorem from_bytes (x : Bx) : fromF (bytesF x) = x := by
  have h1 : (bytesF x).take 8 = eight x.n := rfl
  have h2 : ((bytesF x).drop 8).take 16 = octs4 x.tag := rfl
  have h3 : (bytesF x).drop 24 = x.text := rfl
  unfold fromF
  rw [h1, h2, h3, of_octs]
  have := of8_app x.n []
  rw [List.append_nil] at this
  rw [this]
theorem bytes_from {b : List UInt8} (h : 24 ≤ b.length) : bytesF (fromF b) = b := by
  unfold bytesF fromF
  simp only []
  rw [eight_of (by rw [List.length_take]; omega), octs_of (by rw [List.length_take, List.length_drop]; omega)]
  have e1 : b.drop 24 = (b.drop 8).drop 16 := by rw [List.drop_drop]
  rw [List.append_assoc, e1, List.take_append_drop, List.take_append_drop]
end Go.Proofs.YthkccpemgmpadaaDoor

namespace Go.Proofs.YthkccpemgmpadaaDoor
set_option maxRecDepth 100000

/-! ### a number's eight octets, one by one -/
/-- The octet of a number at a place. -/
def oct8 (n : Nx) (i : Nat) : UInt8 := ⟨(n >>> (8 * i)).setWidth 8⟩
/-- The first 'k' octets. -/
def eightK (n : Nx) : Nat → List UInt8
  | 0 => []
  | k + 1 => eightK n k ++ [oct8 n k]
theorem eightK_len (n : Nx) (k : Nat) : (eightK n k).length = k := by
  induction k with
  | zero => rfl
  | succ k ih => rw [eightK, List.length_append, ih]; rfl
theorem lo_oct (n : Nx) (i : Nat) (h : i < 4) : (⟨(n.setWidth 32 >>> (8 * i)).setWidth 8⟩ : UInt8) = oct8 n i := by
  unfold oct8
  congr 1
  apply BitVec.eq_of_getLsbD_eq
  intro j hj
  have h1 : 8 * i + j < 32 := by omega
  simp only [BitVec.getLsbD_setWidth, BitVec.getLsbD_ushiftRight, hj, h1, decide_true, Bool.true_and]
theorem hi_oct (n : Nx) (i : Nat) (h : i < 4) : (⟨((n >>> 32).setWidth 32 >>> (8 * i)).setWidth 8⟩ : UInt8) = oct8 n (4 + i) := by
  unfold oct8
  congr 1
  apply BitVec.eq_of_getLsbD_eq
  intro j hj
  have h1 : 8 * i + j < 32 := by omega
  have h2 : 32 + (8 * i + j) = 8 * (4 + i) + j := by omega
  simp only [BitVec.getLsbD_setWidth, BitVec.getLsbD_ushiftRight, hj, h1, h2, decide_true, Bool.true_and]
theorem eightK_all (n : Nx) : eightK n 8 = eight n := by
  have l0 := lo_oct n 0 (by omega); have l1 := lo_oct n 1 (by omega); have l2 := lo_oct n 2 (by omega); have l3 := lo_oct n 3 (by omega)
  have h0 := hi_oct n 0 (by omega); have h1 := hi_oct n 1 (by omega); have h2 := hi_oct n 2 (by omega); have h3 := hi_oct n 3 (by omega)
  unfold eight oct
  simp only [eightK, List.nil_append, List.cons_append]
  simp only [Nat.mul_zero, Nat.mul_one, Nat.reduceMul, Nat.reduceAdd, BitVec.ushiftRight_zero, Nat.add_zero] at l0 l1 l2 l3 h0 h1 h2 h3
  rw [l0, l1, l2, l3, h0, h1, h2, h3]
/-- A number moved down by 'k' octets. -/
def shrK (n : Nx) (k : Nat) : Nx := n >>> (8 * k)
theorem shrK_zero (n : Nx) : shrK n 0 = n := by simp [shrK]
theorem shrK_succ (n : Nx) (k : Nat) : shrK n k >>> 8 = shrK n (k + 1) := by
  unfold shrK
  rw [← BitVec.shiftRight_add]; rfl
theorem shrK_oct (n : Nx) (k : Nat) : (⟨(shrK n k).setWidth 8⟩ : UInt8) = oct8 n k := rfl

/-! ### the number of eight octets, one by one -/
def oc8 (c : UInt8) : Nx := c.toBitVec.setWidth 64
/-- From the lowest one. -/
def numK (l : List UInt8) : Nat → Nx
  | 0 => 0#64
  | k + 1 => numK l k ||| oc8 (l.getD k 0) <<< (8 * k)
theorem oc_wide (c : UInt8) (k : Nat) (h : k ≤ 24) : (oc c <<< k).setWidth 64 = oc8 c <<< k := by
  unfold oc oc8
  apply BitVec.eq_of_getLsbD_eq
  intro i hi
  simp only [BitVec.getLsbD_setWidth, BitVec.getLsbD_shiftLeft]
  by_cases h8 : i - k < 8
  · have h1 : i < 32 := by omega
    have h2 : i - k < 32 := by omega
    have h3 : i - k < 64 := by omega
    simp [h1, h2, h3, hi]
  · have z : c.toBitVec.getLsbD (i - k) = false := BitVec.getLsbD_of_ge _ _ (by omega)
    simp [z]
theorem oc_wide0 (c : UInt8) : (oc c).setWidth 64 = oc8 c := by
  have := oc_wide c 0 (by omega)
  simpa using this
theorem four_wide (l : List UInt8) : (four l).setWidth 64 = oc8 (l.getD 0 0) ||| oc8 (l.getD 1 0) <<< 8 ||| oc8 (l.getD 2 0) <<< 16 ||| oc8 (l.getD 3 0) <<< 24 := by
  unfold four
  rw [BitVec.setWidth_or, BitVec.setWidth_or, BitVec.setWidth_or, oc_wide _ 8 (by omega), oc_wide _ 16 (by omega), oc_wide _ 24 (by omega), oc_wide0]
theorem getD_take4 (l : List UInt8) (i : Nat) (h : i < 4) : (l.take 4).getD i 0 = l.getD i 0 := by
  simp [List.getD_eq_getElem?_getD, h]
theorem getD_drop4 (l : List UInt8) (i : Nat) (h : i < 4) : ((l.drop 4).take 4).getD i 0 = l.getD (4 + i) 0 := by
  simp [List.getD_eq_getElem?_getD, List.getElem?_drop, h]
theorem numK_all (l : List UInt8) : numK l 8 = of8 l := by
  unfold of8
  rw [four_wide, four_wide, getD_take4 l 0 (by omega), getD_take4 l 1 (by omega), getD_take4 l 2 (by omega), getD_take4 l 3 (by omega),
    getD_drop4 l 0 (by omega), getD_drop4 l 1 (by omega), getD_drop4 l 2 (by omega), getD_drop4 l 3 (by omega)]
  simp only [BitVec.shiftLeft_or_distrib, ← BitVec.shiftLeft_add, numK, Nat.mul_zero, Nat.mul_one, Nat.reduceMul, Nat.reduceAdd, BitVec.shiftLeft_zero, BitVec.zero_or, BitVec.or_assoc, Nat.add_zero]
/-- From the greatest one: the last 'k' of eight octets. -/
def horK (l : List UInt8) : Nat → Nx
  | 0 => 0#64
  | k + 1 => 256#64 * horK l k + oc8 (l.getD (7 - k) 0)
theorem hor_step (x : Nx) (c : UInt8) : 256#64 * x + oc8 c = x <<< 8 ||| oc8 c := by
  have e : 256#64 * x = x <<< 8 := by
    rw [BitVec.mul_comm]
    have := BitVec.shiftLeft_eq_mul_twoPow x 8
    rw [this]; rfl
  rw [e]
  apply BitVec.add_eq_or_of_and_eq_zero
  apply BitVec.eq_of_getLsbD_eq
  intro i hi
  simp only [BitVec.getLsbD_and, BitVec.getLsbD_shiftLeft, oc8, BitVec.getLsbD_setWidth, BitVec.getLsbD_zero]
  by_cases h : i < 8
  · simp [h]
  · have z : c.toBitVec.getLsbD i = false := BitVec.getLsbD_of_ge _ _ (by omega)
    simp [z]
theorem horK_all (l : List UInt8) : horK l 8 = of8 l := by
  rw [← numK_all]
  simp only [horK, hor_step, numK, BitVec.shiftLeft_or_distrib, ← BitVec.shiftLeft_add, Nat.mul_zero, Nat.mul_one, Nat.reduceMul, Nat.reduceAdd, Nat.reduceSub, BitVec.shiftLeft_zero, BitVec.zero_or, BitVec.zero_shiftLeft, Nat.sub_zero, Nat.sub_self]
  generalize oc8 (l.getD 0 0) = c0, oc8 (l.getD 1 0) <<< 8 = c1, oc8 (l.getD 2 0) <<< 16 = c2, oc8 (l.getD 3 0) <<< 24 = c3, oc8 (l.getD 4 0) <<< 32 = c4, oc8 (l.getD 5 0) <<< 40 = c5, oc8 (l.getD 6 0) <<< 48 = c6, oc8 (l.getD 7 0) <<< 56 = c7
  ac_rfl
end Go.Proofs.YthkccpemgmpadaaDoor

namespace Go.Proofs.YthkccpemgmpadaaDoor
set_option maxRecDepth 100000
open Go.RowKit

/-- An octet's number, a register's. -/
def n8 (x : UInt8) : Int := (x.toNat : Int)
def n32 (x : Reg) : Int := (x.toNat : Int)
/-- A byte's cell. -/
abbrev u8v (x : UInt8) : Value := .int .u8 (n8 x)
abbrev u32v (x : Reg) : Value := .int .u32 (n32 x)

/-- The slice value 'v' reads, in the world 'w', as the bytes 'l'; its block lies from 'lo' on and below 'hi'. -/
def Bs (lo hi : Nat) (w : World) (v : Value) (l : List UInt8) : Prop :=
  ∃ A c, v = .slice A l.length c ∧ l.length ≤ c ∧ c ≤ 9223372036854775807 ∧
    (0 < l.length → ∃ b off, A = some ⟨b, off, none⟩ ∧ lo ≤ b ∧ b < hi ∧ ∀ i (h : i < l.length), w.cell? ⟨b, off + i, none⟩ = some (u8v l[i]))

/-- The two worlds agree on the blocks from 'lo' on and below 'hi'. -/
def Agree (lo hi : Nat) (w w' : World) : Prop := ∀ k, lo ≤ k → k < hi → w'.heap[k]? = w.heap[k]?

theorem Agree.of_below {lo hi B : Nat} {w w' : World} (h : Below B w w') (hb : hi ≤ B) : Agree lo hi w w' := fun k _ hk => h.block k (by omega)
theorem Agree.refl (lo hi : Nat) (w : World) : Agree lo hi w w := fun _ _ _ => rfl

theorem Bs.keep {lo hi : Nat} {w w' : World} {v : Value} {l : List UInt8} (h : Bs lo hi w v l) (k : Agree lo hi w w') : Bs lo hi w' v l := by
  obtain ⟨A, c, rfl, h1, h2, h3⟩ := h
  refine ⟨A, c, rfl, h1, h2, fun h0 => ?_⟩
  obtain ⟨b, off, rfl, hb, hb', hc⟩ := h3 h0
  exact ⟨b, off, rfl, hb, hb', fun i hi => (World.cell?_of_block (k b hb hb')).trans (hc i hi)⟩

theorem Bs.mono {lo lo' hi hi' : Nat} {w : World} {v : Value} {l : List UInt8} (h : Bs lo hi w v l) (h1 : lo' ≤ lo) (h2 : hi ≤ hi') : Bs lo' hi' w v l := by
  obtain ⟨A, c, rfl, a1, a2, h3⟩ := h
  refine ⟨A, c, rfl, a1, a2, fun h0 => ?_⟩
  obtain ⟨b, off, rfl, hb, hb', hc⟩ := h3 h0
  exact ⟨b, off, rfl, by omega, by omega, hc⟩

theorem Bs.below {lo hi B : Nat} {w w' : World} {v : Value} {l : List UInt8} (h : Bs lo hi w v l) (hb : Below B w w') (hB : hi ≤ B) : Bs lo hi w' v l :=
  h.keep (Agree.of_below hb hB)

theorem bl_alloc {a w : World} (h : Below a.heap.size a w) (o : Obj) : Below a.heap.size a (w.alloc o) := h.alloc h.size o
theorem bl_call {a w w' : World} (h : Below a.heap.size a w) (h' : Below w.heap.size w w') : Below a.heap.size a w' := h.trans (h'.mono h.size)
theorem bl_grown {a w w' : World} {row : Option Nat} (h : Below a.heap.size a w) (hg : w.grownBy w' row) (hr : ∀ k, row = some k → a.heap.size ≤ k) : Below a.heap.size a w' := h.grown hg h.size hr
theorem bcell {W w1 : World} (hb : Below W.heap.size W w1) : (∀ b o, b < W.heap.size → w1.cell? ⟨b, o, none⟩ = W.cell? ⟨b, o, none⟩) ∧ (∀ b o, b < W.heap.size → w1.frozen? ⟨b, o, none⟩ = W.frozen? ⟨b, o, none⟩) :=
  ⟨fun b o h => hb.cell (p := ⟨b, o, none⟩) h, fun b o h => hb.frozen (p := ⟨b, o, none⟩) h⟩
theorem hide {p : Prop} (h : p) : Hid p := h
theorem unhide {p : Prop} (h : Hid p) : p := h
theorem ret_v {v v' : Value} (h : v = v') : Ending.returned v = .returned v' := by rw [h]
theorem ret_b {v : Value} {b b' : Bool} (h : v = .bool b) (e : b = b') : Ending.returned v = .returned (.bool b') := by rw [h, e]
theorem ret_i {v : Value} {k : IntKind} {b b' : Int} (h : v = .int k b) (e : b = b') : Ending.returned v = .returned (.int k b') := by rw [h, e]

/-! ### append onto a row of the call's own, whatever the source -/
/-- A source of an append: where there is an element there is an address with the cells 'news'. -/
def SrcOk (w : World) (A : Option Addr) (m : Nat) (news : List Value) : Prop := 0 < m → ∃ ad, A = some ad ∧ ∀ j u, news[j]? = some u → w.cell? (ad.add j) = some u
theorem SrcOk.below {w w' : World} {A : Option Addr} {m : Nat} {news : List Value} (h : SrcOk w A m news) (hb : Below w.heap.size w w') : SrcOk w' A m news := fun h0 => by
  obtain ⟨ad, e, hc⟩ := h h0
  exact ⟨ad, e, fun j u hu => (hb.cell (World.block_lt_of_cell? w _ (hc j u hu))).trans (hc j u hu)⟩
section
variable {P : Program} (w : World)
theorem run_app (base : Nat) (t ty e : TypeId) (i : TypeInfo) (z : Value) (size bytes : Nat) (ht : P.underlying t = some (.slice e)) (hi : P.info? e = some i) (hz : i.zero = some z)
    (hsize : i.size = size) (hby : i.bytes = bytes) (hzs : z.cells.size = size) (hsz : 0 < size)
    (v : Value) (n : Nat) (xs : List Value) (hown : w.ownsRow base e size v n xs)
    (A : Option Addr) (m c : Nat) (news : List Value) (hl : news.length = m * size) (hr : SrcOk w A m news) (h1 : ∀ u ∈ news, u.oneCell' = true)
    (h63 : n + m ≤ maxLen) (hbytes : (n + m) * bytes ≤ 140737488355328) (hbase : base ≤ w.heap.size) :
    ∃ v' w', (Builtin.append_ #[t, t] ty #[v, .slice A m c]).run P w = .ok v' w' ∧ w'.ownsRow base e size v' (n + m) (xs ++ news) ∧ w.grownBy w' v.ownBlock := by
  rcases Nat.eq_zero_or_pos m with rfl | hm
  · have hn : news = [] := List.eq_nil_of_length_eq_zero (by simpa using hl)
    subst hn
    rcases A with _ | ad
    · refine ⟨v, w, ?_, by simpa using hown, World.grownBy.refl w _⟩
      rcases hown.2 with ⟨rfl, rfl⟩ | ⟨g, cap, cur, rfl, _, _, hnc, _⟩
      · simp [Builtin.append_, run_underlying ht, sizeOf, typeInfo, hi, Builtin.lenOf, Builtin.firstCells]
      · simp [Builtin.append_, run_underlying ht, sizeOf, typeInfo, hi, Builtin.lenOf, Builtin.firstCells, hnc, storeCells]
    · obtain ⟨v', w', a, b, c', _⟩ := run_append_own (P := P) w base t ty e i z size bytes ht hi hz hsize hby hzs hsz v n xs hown ad 0 c [] hl (by simp) h1 h63 hbytes hbase
      exact ⟨v', w', a, b, c'⟩
  · obtain ⟨ad, rfl, hc⟩ := hr hm
    obtain ⟨v', w', a, b, c', _⟩ := run_append_own (P := P) w base t ty e i z size bytes ht hi hz hsize hby hzs hsz v n xs hown ad m c news hl hc h1 h63 hbytes hbase
    exact ⟨v', w', a, b, c'⟩

theorem wp_app {o : Oper} {a : Act} {K : Act → World → Prop} {Q : Exit → Act → World → Prop} (s x : Operand) (t : TypeId)
    (ho : o.op = .call { callee := .builtin .append, args := #[s, x], argTypes := #[t, t] })
    (base : Nat) (e : TypeId) (i : TypeInfo) (z : Value) (size bytes : Nat) (ht : P.underlying t = some (.slice e)) (hi : P.info? e = some i) (hz : i.zero = some z)
    (hsize : i.size = size) (hby : i.bytes = bytes) (hzs : z.cells.size = size) (hsz : 0 < size)
    (v : Value) (n : Nat) (xs : List Value) (hs : a.eval s = v) (hown : w.ownsRow base e size v n xs)
    (A : Option Addr) (m c : Nat) (news : List Value) (hx : a.eval x = .slice A m c) (hl : news.length = m * size) (hr : SrcOk w A m news) (h1 : ∀ u ∈ news, u.oneCell' = true)
    (h63 : n + m ≤ maxLen) (hbytes : (n + m) * bytes ≤ 140737488355328) (hbase : base ≤ w.heap.size)
    (h : ∀ v' w', w'.ownsRow base e size v' (n + m) (xs ++ news) → w.grownBy w' v.ownBlock → K (a.put o.dst v') w') : o.wp P a w K Q := by
  obtain ⟨v', w', hr, h2, h3⟩ := run_app (P := P) w base t o.type e i z size bytes ht hi hz hsize hby hzs hsz v n xs hown A m c news hl hr h1 h63 hbytes hbase
  unfold Oper.wp execOp
  simp only [ho, resolve, invoke, builtin, Sem.run_bind, Sem.run_pure, Result.andThen_ok, List.map_toArray, List.map_cons, List.map_nil, hs, hx, hr]
  exact h v' w' h2 h3

theorem wpList_app {ops : Array Oper} {rest : List Oper} {o : Oper} {a : Act} {Q : Exit → Act → World → Prop} (hgd : o.guard = none) (s x : Operand) (t : TypeId)
    (ho : o.op = .call { callee := .builtin .append, args := #[s, x], argTypes := #[t, t] })
    (base : Nat) (e : TypeId) (i : TypeInfo) (z : Value) (size bytes : Nat) (ht : P.underlying t = some (.slice e)) (hi : P.info? e = some i) (hz : i.zero = some z)
    (hsize : i.size = size) (hby : i.bytes = bytes) (hzs : z.cells.size = size) (hsz : 0 < size)
    (v : Value) (n : Nat) (xs : List Value) (hs : a.eval s = v) (hown : w.ownsRow base e size v n xs)
    (A : Option Addr) (m c : Nat) (news : List Value) (hx : a.eval x = .slice A m c) (hl : news.length = m * size) (hr : SrcOk w A m news) (h1 : ∀ u ∈ news, u.oneCell' = true)
    (h63 : n + m ≤ maxLen) (hbytes : (n + m) * bytes ≤ 140737488355328) (hbase : base ≤ w.heap.size)
    (h : ∀ v' w', w'.ownsRow base e size v' (n + m) (xs ++ news) → w.grownBy w' v.ownBlock → wpList P ops Q rest (a.put o.dst v') w') : wpList P ops Q (o :: rest) a w :=
  wpList_plain hgd fun _ hK => wp_app w s x t ho base e i z size bytes ht hi hz hsize hby hzs hsz v n xs hs hown A m c news hx hl hr h1 h63 hbytes hbase fun v' w' h2 h3 => hK _ _ (h v' w' h2 h3)
end

/-- 'make([]T, n)', for every world. -/
theorem run_mk {P : Program} (t e : TypeId) (i : TypeInfo) (z : Value) (size : Nat) (ht : P.underlying t = some (.slice e)) (hi : P.info? e = some i) (hz : i.zero = some z) (hsize : i.size = size)
    (n : Nat) (hbytes : i.bytes * n ≤ 281474976710656) (h63 : n ≤ 9223372036854775807) (W : World) :
    (Instr.makeSlice t (.int .i64 (n : Int)) (.int .i64 (n : Int))).run P W = .ok (.slice (some ⟨W.heap.size, 0, none⟩) n n) (W.alloc (.cells (madeCells z.cells (n * size)) e)) := by
  subst hsize
  have hb' : (i.bytes : Int) * (n : Int) ≤ 281474976710656 := by
    have h : ((i.bytes * n : Nat) : Int) ≤ 281474976710656 := by omega
    rwa [Int.natCast_mul] at h
  have hr := run_make (P := P) W t e i z ht hi hz .i64 .i64 n n (by omega) (Int.le_refl _) hb' (by omega)
  simp only [Int.toNat_natCast] at hr
  exact hr

/-! ### bytes that the call owns -/
theorem ownsRow_len {w : World} {base : Nat} {e : TypeId} {size : Nat} {v : Value} {n : Nat} {xs : List Value} (h : w.ownsRow base e size v n xs) : xs.length = n * size := h.1

theorem ownsRow_mono {w : World} {base base' : Nat} {e : TypeId} {size : Nat} {v : Value} {n : Nat} {xs : List Value} (h : w.ownsRow base e size v n xs) (hb : base' ≤ base) : w.ownsRow base' e size v n xs := by
  obtain ⟨h1, h2⟩ := h
  refine ⟨h1, ?_⟩
  rcases h2 with h2 | ⟨g, cap, cur, hv, hg, r⟩
  · exact .inl h2
  · exact .inr ⟨g, cap, cur, hv, by omega, r⟩
theorem ownsRow_form {w : World} {base : Nat} {e : TypeId} {size : Nat} {v : Value} {n : Nat} {xs : List Value} (h : w.ownsRow base e size v n xs) : ∃ A c, v = .slice A n c := by
  rcases h.2 with ⟨rfl, rfl⟩ | ⟨g, cap, cur, rfl, _⟩
  · exact ⟨_, _, rfl⟩
  · exact ⟨_, _, rfl⟩
/-- A row of the call's own stays while a cell of a block below its base is written. -/
theorem ownsRow_setCell' {w : World} {base : Nat} {e : TypeId} {size : Nat} {v : Value} {n : Nat} {xs : List Value} (h : w.ownsRow base e size v n xs) {a : Addr} (ha : a.block < base) (u : Value) : (w.setCell a u).ownsRow base e size v n xs :=
  ownsRow_setCell_below h ha u

/-- What the call owns as a row of bytes reads as these bytes. -/
theorem Bs.of_own {w : World} {base : Nat} {e : TypeId} {v : Value} {l : List UInt8} (h : w.ownsRow base e 1 v l.length (l.map u8v)) : Bs base w.heap.size w v l := by
  rcases h.2 with ⟨rfl, h0⟩ | ⟨g, cap, cur, rfl, hb, hg, hnc, hcm, hcs, htake⟩
  · refine ⟨none, 0, by rw [h0], by omega, by omega, fun hp => by omega⟩
  · refine ⟨_, cap, rfl, hnc, by simpa [maxLen] using hcm, fun hp => ⟨g, 0, rfl, hb, ?_, fun i hi => ?_⟩⟩
    · rcases Nat.lt_or_ge g w.heap.size with h1 | h1
      · exact h1
      · rw [Array.getElem?_eq_none h1] at hg; cases hg
    · have hc := World.ownsRow.cellAt (w := w) (base := base) (e := e) (size := 1) (g := g) (n := l.length) (cap := cap) (xs := l.map u8v) h i (by omega)
      rw [Nat.zero_add, hc]
      simp [hi]

theorem u8v_one (x : UInt8) : (u8v x).oneCell' = true := rfl
theorem u8s_one (l : List UInt8) : ∀ u ∈ l.map u8v, u.oneCell' = true := by
  intro u hu
  obtain ⟨x, _, rfl⟩ := List.mem_map.1 hu
  rfl

/-- The cells of a slice that reads as bytes, as an append asks for them. -/
theorem Bs.src {lo hi : Nat} {w : World} {A : Option Addr} {n c : Nat} {l : List UInt8} (h : Bs lo hi w (.slice A n c) l) :
    n = l.length ∧ SrcOk w A n (l.map u8v) := by
  obtain ⟨A', c', e, _, _, h3⟩ := h
  injection e with e1 e2 e3
  subst e1 e2 e3
  refine ⟨rfl, fun h0 => ?_⟩
  obtain ⟨b, off, rfl, _, _, hc⟩ := h3 h0
  refine ⟨_, rfl, fun j u hu => ?_⟩
  rw [List.getElem?_map, Option.map_eq_some_iff] at hu
  obtain ⟨x, hx, rfl⟩ := hu
  obtain ⟨hj, rfl⟩ := List.getElem?_eq_some_iff.1 hx
  have := hc j hj
  unfold Addr.add
  split
  · rename_i h0; subst h0; simpa using this
  · exact this


/-! ### a block that is known whole -/
def Blk (w : World) (g : Nat) (t : TypeId) (cs : Array Value) : Prop := w.heap[g]? = some (.cells cs t (0, 0))
section
variable {w w' : World} {g : Nat} {t : TypeId} {cs : Array Value}
theorem Blk.lt (h : Blk w g t cs) : g < w.heap.size := by
  rcases Nat.lt_or_ge g w.heap.size with h1 | h1
  · exact h1
  · unfold Blk at h; rw [Array.getElem?_eq_none h1] at h; cases h
theorem Blk.cell (h : Blk w g t cs) (i : Nat) : w.cell? ⟨g, i, none⟩ = cs[i]? := cell_of_row w g i cs t (0, 0) h
theorem Blk.frozen (h : Blk w g t cs) (i : Nat) : w.frozen? ⟨g, i, none⟩ = false := frozen_of_row w g i cs t h
theorem Blk.new (hg : g = w.heap.size) : Blk (w.alloc (.cells cs t)) g t cs := by subst hg; exact heap_alloc_new w _
theorem Blk.drew (h : Blk w g t cs) : Blk w.drew g t cs := h
theorem Blk.drewN (h : Blk w g t cs) (n : Nat) : Blk (w.drewN n) g t cs := h
theorem Blk.alloc (h : Blk w g t cs) (o : Obj) : Blk (w.alloc o) g t cs := (Below.heap_alloc w o g h.lt).trans h
theorem Blk.set (h : Blk w g t cs) (i : Nat) (u : Value) : Blk (w.setCell ⟨g, i, none⟩ u) g t (cs.setIfInBounds i u) := heap_setCell_same w g i cs t u h
theorem Blk.far (h : Blk w g t cs) {p : Addr} (hp : g ≠ p.block) (u : Value) : Blk (w.setCell p u) g t cs := (Below.heap_setCell w p u g hp).trans h
theorem Blk.below {B : Nat} (h : Blk w g t cs) (hb : Below B w w') (hg : g < B) : Blk w' g t cs := (hb.block g hg).trans h
theorem Blk.ne_ {g' : Nat} {t' : TypeId} {cs' : Array Value} (h : Blk w g t cs) (h' : Blk w g' t' cs') (hne : t ≠ t') : g ≠ g' := by
  rintro rfl
  unfold Blk at h h'
  rw [h] at h'
  injection h' with h'
  injection h' with _ ht
  exact hne ht
theorem Blk.uniq {cs' : Array Value} (h : Blk w g t cs) (h' : Blk w g t cs') : cs = cs' := by
  unfold Blk at h h'
  rw [h] at h'
  injection h' with h'
  injection h'
end

theorem own_below {w w' : World} {base B : Nat} {e : TypeId} {size : Nat} {v : Value} {n : Nat} {xs : List Value} (h : w.ownsRow base e size v n xs) (hb : Below B w w') (hB : w.heap.size ≤ B) : w'.ownsRow base e size v n xs := by
  obtain ⟨h1, h2⟩ := h
  refine ⟨h1, ?_⟩
  rcases h2 with h2 | ⟨g, cap, cur, hv, hg, hh, r⟩
  · exact .inl h2
  · have hl : g < w.heap.size := Blk.lt (t := e) (cs := cur) hh
    exact .inr ⟨g, cap, cur, hv, hg, (hb.block g (by omega)).trans hh, r⟩
theorem own_far {w : World} {base : Nat} {e : TypeId} {size : Nat} {v : Value} {n : Nat} {xs : List Value} (h : w.ownsRow base e size v n xs) {g : Nat} {t : TypeId} {cs : Array Value} (hg : Blk w g t cs) (hne : e ≠ t) (i : Nat) (u : Value) : (w.setCell ⟨g, i, none⟩ u).ownsRow base e size v n xs := by
  obtain ⟨h1, h2⟩ := h
  refine ⟨h1, ?_⟩
  rcases h2 with h2 | ⟨g', cap, cur, hv, hb, hh, r⟩
  · exact .inl h2
  · have : g' ≠ g := Blk.ne_ (t := e) (cs := cur) hh hg hne
    exact .inr ⟨g', cap, cur, hv, hb, (Below.heap_setCell w ⟨g, i, none⟩ u g' this).trans hh, r⟩


theorem Blk.set3 {w : World} {g : Nat} {t : TypeId} {a b c x y z : Value} (h : Blk w g t #[a, b, c]) : Blk (((w.setCell ⟨g, 0, none⟩ x).setCell ⟨g, 1, none⟩ y).setCell ⟨g, 2, none⟩ z) g t #[x, y, z] := by
  simpa using ((h.set 0 x).set 1 y).set 2 z
theorem Blk.set2 {w : World} {g : Nat} {t : TypeId} {a b x y : Value} (h : Blk w g t #[a, b]) : Blk ((w.setCell ⟨g, 0, none⟩ x).setCell ⟨g, 1, none⟩ y) g t #[x, y] := by
  simpa using (h.set 0 x).set 1 y
theorem own_set3 {w : World} {base : Nat} {e : TypeId} {size : Nat} {v : Value} {n : Nat} {xs : List Value} {g : Nat} {t : TypeId} {a b c x y z : Value} (h : w.ownsRow base e size v n xs) (hg : Blk w g t #[a, b, c]) (hne : e ≠ t) :
    (((w.setCell ⟨g, 0, none⟩ x).setCell ⟨g, 1, none⟩ y).setCell ⟨g, 2, none⟩ z).ownsRow base e size v n xs :=
  own_far (own_far (own_far h hg hne 0 x) (hg.set 0 x) hne 1 y) ((hg.set 0 x).set 1 y) hne 2 z


/-- The block of a slice value lies below 'B'. -/
def VBelow (B : Nat) (v : Value) : Prop := ∀ a n c, v = .slice (some a) n c → a.block < B
theorem own_below2 {w w' : World} {base B : Nat} {e : TypeId} {size : Nat} {v : Value} {n : Nat} {xs : List Value} (h : w.ownsRow base e size v n xs) (hb : Below B w w') (hB : VBelow B v) : w'.ownsRow base e size v n xs := by
  obtain ⟨h1, h2⟩ := h
  refine ⟨h1, ?_⟩
  rcases h2 with h2 | ⟨g, cap, cur, hv, hg, hh, r⟩
  · exact .inl h2
  · exact .inr ⟨g, cap, cur, hv, hg, (hb.block g (hB _ _ _ hv)).trans hh, r⟩
theorem own_vbelow {w : World} {base : Nat} {e : TypeId} {size : Nat} {v : Value} {n : Nat} {xs : List Value} (h : w.ownsRow base e size v n xs) : VBelow w.heap.size v := by
  intro a n' c hv
  rcases h.2 with ⟨h1, _⟩ | ⟨g, cap, cur, h1, _, hh, _⟩
  · rw [h1] at hv; injection hv with hv; cases hv
  · rw [h1] at hv
    injection hv with hv
    injection hv with hv
    subst hv
    exact Blk.lt (t := e) (cs := cur) hh




/-! ### registers as the model has them -/
theorem n32_lit (n : Nat) (h : n < 4294967296) : (n : Int) = n32 (BitVec.ofNat 32 n) := by
  unfold n32
  rw [BitVec.toNat_ofNat, Nat.mod_eq_of_lt (by omega)]
theorem n32_inj {x y : Reg} (h : n32 x = n32 y) : x = y := by
  unfold n32 at h
  exact BitVec.eq_of_toNat_eq (by omega)
theorem n8_inj {x y : UInt8} (h : n8 x = n8 y) : x = y := by
  unfold n8 at h
  exact UInt8.toNat_inj.1 (by omega)

section
variable (x y : Reg) (c : UInt8)
theorem ofInt_reg : BitVec.ofInt IntKind.u32.bits (n32 x) = x := by
  show BitVec.ofInt 32 (x.toNat : Int) = x
  rw [BitVec.ofInt_natCast, BitVec.ofNat_toNat, BitVec.setWidth_eq]
theorem wrap_reg : IntKind.u32.wrap ((x.toNat : Nat) : Int) = n32 x := by
  unfold n32
  have := x.isLt
  rw [IntKind.wrap_u32']
  omega
theorem r_xor : bits .xor .u32 (n32 x) (n32 y) = n32 (x ^^^ y) := by
  show IntKind.u32.wrap _ = _
  rw [ofInt_reg, ofInt_reg]
  exact wrap_reg (x ^^^ y)
theorem r_or : bits .or .u32 (n32 x) (n32 y) = n32 (x ||| y) := by
  show IntKind.u32.wrap _ = _
  rw [ofInt_reg, ofInt_reg]
  exact wrap_reg (x ||| y)
theorem r_add : (n32 x + n32 y) % (4294967296 : Int) = n32 (x + y) := by
  unfold n32
  rw [BitVec.toNat_add]
  omega
theorem r_sub : (n32 x - n32 y) % (4294967296 : Int) = n32 (x - y) := by
  unfold n32
  rw [BitVec.toNat_sub]
  have := x.isLt; have := y.isLt
  omega
theorem r_mul : (n32 x * n32 y) % (4294967296 : Int) = n32 (x * y) := by
  unfold n32
  rw [BitVec.toNat_mul, ← Int.natCast_mul]
  generalize x.toNat * y.toNat = z
  omega
theorem r_add1 : (n32 x + (1 : Int)) % (4294967296 : Int) = n32 (x + 1#32) := r_add x 1#32
theorem r_sub7 : ((7 : Int) - n32 y) % (4294967296 : Int) = n32 (7#32 - y) := r_sub 7#32 y
theorem r_stamp : (n32 x * (2654435769 : Int)) % (4294967296 : Int) = n32 (x * 2654435769#32) := r_mul x 2654435769#32
theorem r_mul1 : ((256 : Int) * n32 y) % (4294967296 : Int) = n32 (256#32 * y) := r_mul 256#32 y
theorem r_mul2 : ((65536 : Int) * n32 y) % (4294967296 : Int) = n32 (65536#32 * y) := r_mul 65536#32 y
theorem r_mul3 : ((16777216 : Int) * n32 y) % (4294967296 : Int) = n32 (16777216#32 * y) := r_mul 16777216#32 y
theorem r_shr (k : Nat) : n32 x / ((2 ^ k : Nat) : Int) = n32 (x >>> k) := by
  unfold n32
  rw [BitVec.toNat_ushiftRight, Nat.shiftRight_eq_div_pow, Int.natCast_ediv]
theorem r_shl (k : Nat) : n32 x * ((2 ^ k : Nat) : Int) % (4294967296 : Int) = n32 (x <<< k) := by
  unfold n32
  rw [BitVec.toNat_shiftLeft, Nat.shiftLeft_eq, ← Int.natCast_mul]
  generalize x.toNat * 2 ^ k = z
  omega
theorem r_shr7 : n32 x / (128 : Int) = n32 (x >>> 7) := r_shr x 7
theorem r_shr8 : n32 x / (256 : Int) = n32 (x >>> 8) := r_shr x 8
theorem r_shr12 : n32 x / (4096 : Int) = n32 (x >>> 12) := r_shr x 12
theorem r_shr16 : n32 x / (65536 : Int) = n32 (x >>> 16) := r_shr x 16
theorem r_shr20 : n32 x / (1048576 : Int) = n32 (x >>> 20) := r_shr x 20
theorem r_shr24 : n32 x / (16777216 : Int) = n32 (x >>> 24) := r_shr x 24
theorem r_shr25 : n32 x / (33554432 : Int) = n32 (x >>> 25) := r_shr x 25
theorem r_shl7 : n32 x * (128 : Int) % (4294967296 : Int) = n32 (x <<< 7) := r_shl x 7
theorem r_shl8 : n32 x * (256 : Int) % (4294967296 : Int) = n32 (x <<< 8) := r_shl x 8
theorem r_shl12 : n32 x * (4096 : Int) % (4294967296 : Int) = n32 (x <<< 12) := r_shl x 12
theorem r_shl16 : n32 x * (65536 : Int) % (4294967296 : Int) = n32 (x <<< 16) := r_shl x 16
theorem r_shl20 : n32 x * (1048576 : Int) % (4294967296 : Int) = n32 (x <<< 20) := r_shl x 20
theorem r_shl24 : n32 x * (16777216 : Int) % (4294967296 : Int) = n32 (x <<< 24) := r_shl x 24
theorem r_shl25 : n32 x * (33554432 : Int) % (4294967296 : Int) = n32 (x <<< 25) := r_shl x 25
theorem r_conv : n8 c % (4294967296 : Int) = n32 (oc c) := by
  have := c.toNat_lt
  unfold n8 n32
  simp [oc]
  omega
theorem r_low : n32 x % (256 : Int) = n8 (⟨x.setWidth 8⟩ : UInt8) := by
  unfold n8 n32
  show _ = ((x.setWidth 8).toNat : Int)
  rw [BitVec.toNat_setWidth]
  omega
theorem r_small : n8 c % (256 : Int) = n8 c := by
  unfold n8
  have := c.toNat_lt
  omega
theorem r_int : n8 c % (18446744073709551616 : Int) = n8 c := by
  unfold n8
  have := c.toNat_lt
  omega
end
end Go.Proofs.YthkccpemgmpadaaDoor

namespace Go.Proofs.YthkccpemgmpadaaDoor
set_option maxRecDepth 100000
open Go.RowKit

/-- Only block 'g' has turned. -/
structure Only (g : Nat) (w w' : World) : Prop where
  os : w'.os = w.os
  tape : w'.tape = w.tape
  output : w'.output = w.output
  size : w'.heap.size = w.heap.size
  block : ∀ k, k ≠ g → w'.heap[k]? = w.heap[k]?
theorem Only.below {g B : Nat} {w w' : World} (h : Only g w w') (hB : B ≤ g) : Below B w w' := ⟨h.os, h.tape, h.output, Nat.le_of_eq h.size.symm, fun k hk => h.block k (by omega)⟩


theorem own_fresh (w : World) (base g : Nat) (e : TypeId) (size c : Nat) (cs : Array Value) (hg : g = w.heap.size) (hb : base ≤ w.heap.size) (hc : c ≤ maxLen) (hs : cs.size = c * size) :
    (w.alloc (.cells cs e)).ownsRow base e size (.slice (some ⟨g, 0, none⟩) 0 c) 0 [] := by
  subst hg
  exact ⟨by simp, .inr ⟨w.heap.size, c, cs, rfl, hb, heap_alloc_new w _, Nat.zero_le _, hc, hs, by simp⟩⟩
theorem own_drew {w : World} {base : Nat} {e : TypeId} {size : Nat} {v : Value} {n : Nat} {xs : List Value} (h : w.ownsRow base e size v n xs) : w.drew.ownsRow base e size v n xs := h
theorem own_base {w : World} {base : Nat} {e : TypeId} {size : Nat} {v : Value} {n : Nat} {xs : List Value} (h : w.ownsRow base e size v n xs) : ∀ k, v.ownBlock = some k → base ≤ k := by
  intro k hk
  rcases h.2 with ⟨rfl, _⟩ | ⟨g, cap, cur, rfl, hb, _⟩
  · simp [Value.ownBlock] at hk
  · simp [Value.ownBlock] at hk; omega

theorem Blk.only {g g' : Nat} {t : TypeId} {cs : Array Value} {w w' : World} (h : Blk w g' t cs) (ho : Only g w w') (hne : g' ≠ g) : Blk w' g' t cs := (ho.block g' hne).trans h
theorem own_only {w w' : World} {base : Nat} {e : TypeId} {size : Nat} {v : Value} {n : Nat} {xs : List Value} {g : Nat} (h : w.ownsRow base e size v n xs) (ho : Only g w w') (hne : VBelow g v) : w'.ownsRow base e size v n xs := by
  obtain ⟨h1, h2⟩ := h
  refine ⟨h1, ?_⟩
  rcases h2 with h2 | ⟨g', cap, cur, hv, hg, hh, r⟩
  · exact .inl h2
  · have := hne _ _ _ hv
    exact .inr ⟨g', cap, cur, hv, hg, (ho.block g' (by simp at this; omega)).trans hh, r⟩

/-- copy of things of 'k' cells each into a row that is known whole; nil and empty let in. -/
theorem run_copyN {P : Program} (w : World) (dT sT ty elem : TypeId) (k : Nat) (hu : P.underlying dT = some (.slice elem)) (hsz : (P.info? elem).map (·.size) = some k)
    (dp sp : Option Addr) (dLen dCap sLen sCap : Nat) (g off : Nat) (cur : List Value) (t : TypeId) (hg : Blk w g t cur.toArray) (cs : List Value) (m : Nat) (hm : m = Nat.min sLen dLen) (hn : cs.length = m * k)
    (hpos : 0 < cs.length → dp = some ⟨g, off, none⟩ ∧ SrcOk w sp cs.length cs) (hfit : off + cs.length ≤ cur.length) (h1 : ∀ v ∈ cs, v.oneCell' = true) :
    ∃ w', (Builtin.copy_ #[dT, sT] ty #[.slice dp dLen dCap, .slice sp sLen sCap]).run P w = .ok (goInt m) w' ∧ Blk w' g t (splice cur off cs).toArray ∧ Only g w w' := by
  cases hq : P.info? elem with
  | none => simp [hq] at hsz
  | some i =>
    have hi : i.size = k := by simpa [hq] using hsz
    by_cases h0 : cs.length = 0
    · obtain rfl : cs = [] := List.eq_nil_of_length_eq_zero h0
      have hl : ∀ (x : Addr), (loadCells x 0).run P w = .ok #[] w := fun x => by simpa using run_loadCells_list (P := P) w x [] (by simp)
      have hmk : m * k = 0 := by simpa using hn.symm
      refine ⟨w, ?_, by simpa [splice] using hg, ⟨rfl, rfl, rfl, rfl, fun _ _ => rfl⟩⟩
      cases dp <;> cases sp <;> simp [Builtin.copy_, run_underlying hu, Builtin.lenOf, Builtin.firstCells, sizeOf, typeInfo, hq, hi, ← hm, hmk, storeCells, hl]
    · obtain ⟨rfl, hs⟩ := hpos (by omega)
      obtain ⟨ad, rfl, hsrc⟩ := hs (by omega)
      have hl := run_loadCells_list (P := P) w ad cs hsrc
      have hst := run_storeCells_at P g off t cs 0 cur.toArray w hg (by simpa using hfit) h1
      refine ⟨w.setRow g (cur.take off ++ cs ++ cur.drop (off + cs.length)).toArray, ?_, ?_, ?_⟩
      · simp [Builtin.copy_, run_underlying hu, Builtin.lenOf, Builtin.firstCells, sizeOf, typeInfo, hq, hi, ← hm, ← hn, hl, hst]
      · have := setRow_heap w g _ (splice cur off cs).toArray t _ hg
        simpa [Blk, splice] using this
      · exact ⟨rfl, rfl, rfl, by simp [World.setRow], fun j hj => setRow_other w g j _ hj⟩

theorem step_copyN {P : Program} {ops : Array Oper} {o : Oper} {a : Act} {w : World} {K : Act → World → Prop} {Q : Exit → Act → World → Prop} {E : Prop} (hgd : o.guard = none) (d s : Operand) (dT sT : TypeId)
    (ho : o.op = .call { callee := .builtin .copy, args := #[d, s], argTypes := #[dT, sT] }) (elem : TypeId) (k : Nat) (hu : P.underlying dT = some (.slice elem)) (hsz : (P.info? elem).map (·.size) = some k)
    (dp sp : Option Addr) (dLen dCap sLen sCap : Nat) (hd : a.eval d = .slice dp dLen dCap) (hs : a.eval s = .slice sp sLen sCap)
    (g off : Nat) (cur : List Value) (t : TypeId) (hg : Blk w g t cur.toArray) (cs : List Value) (m : Nat) (hm : m = Nat.min sLen dLen) (hn : cs.length = m * k)
    (hpos : 0 < cs.length → dp = some ⟨g, off, none⟩ ∧ SrcOk w sp cs.length cs) (hfit : off + cs.length ≤ cur.length) (h1 : ∀ v ∈ cs, v.oneCell' = true)
    (h : ∀ w', Hid (Blk w' g t (splice cur off cs).toArray) → Only g w w' → K (a.put o.dst (goInt m)) w') :
    if Region.wanted o (yielded ops a.tmps) = true then Oper.wp P o a w K Q else E := by
  have hw : Region.wanted o (yielded ops a.tmps) = true := by simp [Region.wanted, hgd]
  rw [if_pos hw]
  obtain ⟨w', hrun, hb, ho'⟩ := run_copyN (P := P) w dT sT o.type elem k hu hsz dp sp dLen dCap sLen sCap g off cur t hg cs m hm hn hpos hfit h1
  unfold Oper.wp
  simp [execOp, ho, resolve, invoke, builtin, hd, hs, hrun, Result.andThen]
  exact h _ hb ho'

theorem wpList_copyN {P : Program} {ops : Array Oper} {rest : List Oper} {o : Oper} {a : Act} {w : World} {Q : Exit → Act → World → Prop} (hgd : o.guard = none) (d s : Operand) (dT sT : TypeId)
    (ho : o.op = .call { callee := .builtin .copy, args := #[d, s], argTypes := #[dT, sT] }) (elem : TypeId) (k : Nat) (hu : P.underlying dT = some (.slice elem)) (hsz : (P.info? elem).map (·.size) = some k)
    (dp sp : Option Addr) (dLen dCap sLen sCap : Nat) (hd : a.eval d = .slice dp dLen dCap) (hs : a.eval s = .slice sp sLen sCap)
    (g off : Nat) (cur : List Value) (t : TypeId) (hg : Blk w g t cur.toArray) (cs : List Value) (m : Nat) (hm : m = Nat.min sLen dLen) (hn : cs.length = m * k)
    (hpos : 0 < cs.length → dp = some ⟨g, off, none⟩ ∧ SrcOk w sp cs.length cs) (hfit : off + cs.length ≤ cur.length) (h1 : ∀ v ∈ cs, v.oneCell' = true)
    (h : ∀ w', Hid (Blk w' g t (splice cur off cs).toArray) → Only g w w' → wpList P ops Q rest (a.put o.dst (goInt m)) w') : wpList P ops Q (o :: rest) a w := by
  refine wpList_plain hgd fun K hK => ?_
  have h2 := step_copyN (P := P) (ops := ops) (o := o) (a := a) (w := w) (K := K) (Q := Q) (E := False) hgd d s dT sT ho elem k hu hsz dp sp dLen dCap sLen sCap hd hs g off cur t hg cs m hm hn hpos hfit h1 (fun w' a1 a2 => hK _ _ (h w' a1 a2))
  have hw : Region.wanted o (yielded ops a.tmps) = true := by simp [Region.wanted, hgd]
  rw [if_pos hw] at h2
  exact h2

/-- The cells of a block from a place on, as an append or a copy asks for them. -/
theorem SrcOk.blk {w : World} {g off m : Nat} {t : TypeId} {cur : List Value} {cs : List Value} (hg : Blk w g t cur.toArray) (h : ∀ j u, cs[j]? = some u → cur[off + j]? = some u) : SrcOk w (some ⟨g, off, none⟩) m cs := fun _ => by
  refine ⟨_, rfl, fun j u hu => ?_⟩
  have := h j u hu
  have hc := (hg.cell (off + j)).trans (by simpa using this)
  unfold Addr.add
  split
  · rename_i h0; subst h0; simpa using hc
  · exact hc



end Go.Proofs.YthkccpemgmpadaaDoor

namespace Go.Proofs.YthkccpemgmpadaaDoor
set_option maxRecDepth 100000
open Go.RowKit

/-- The numbers of places lie where the program laid them. -/
structure Tab (w : World) : Prop where
  lt : 0 < w.heap.size
  c0 : w.cell? ⟨0, 0, none⟩ = some (.int .i64 16)
  c1 : w.cell? ⟨0, 1, none⟩ = some (.int .i64 12)
  c2 : w.cell? ⟨0, 2, none⟩ = some (.int .i64 8)
  c3 : w.cell? ⟨0, 3, none⟩ = some (.int .i64 7)
theorem Tab.below {w w' : World} {B : Nat} (h : Tab w) (hb : Below B w w') (hB : w.heap.size ≤ B) : Tab w' :=
  have h0 : 0 < B := Nat.lt_of_lt_of_le h.lt hB
  ⟨Nat.lt_of_lt_of_le h.lt hb.size, (hb.cell (p := ⟨0, 0, none⟩) h0).trans h.c0, (hb.cell (p := ⟨0, 1, none⟩) h0).trans h.c1, (hb.cell (p := ⟨0, 2, none⟩) h0).trans h.c2, (hb.cell (p := ⟨0, 3, none⟩) h0).trans h.c3⟩

section
attribute [local go_sem] r_or r_shr7 r_shr8 r_shr12 r_shr16 r_shr20 r_shr24 r_shr25 r_shl7 r_shl8 r_shl12 r_shl16 r_shl20 r_shl24 r_shl25
set_option maxHeartbeats 400000 in
theorem rotl7_any (x : Reg) (w : World) : Calls Tryd.prog 94 #[u32v x, .int .i64 7] w fun e w' => e = .returned (u32v (rot x 7)) ∧ w = w' := by
  have hk : bits BinOp.and IntKind.u64 7 31 = 7 := by kernel_rfl
  go_enter Tryd.func94, Tryd.ntmps94
  go_wp2
  go_ret
  exact ⟨rfl, rfl⟩
set_option maxHeartbeats 400000 in
theorem rotl8_any (x : Reg) (w : World) : Calls Tryd.prog 94 #[u32v x, .int .i64 8] w fun e w' => e = .returned (u32v (rot x 8)) ∧ w = w' := by
  have hk : bits BinOp.and IntKind.u64 8 31 = 8 := by kernel_rfl
  go_enter Tryd.func94, Tryd.ntmps94
  go_wp2
  go_ret
  exact ⟨rfl, rfl⟩
set_option maxHeartbeats 400000 in
theorem rotl12_any (x : Reg) (w : World) : Calls Tryd.prog 94 #[u32v x, .int .i64 12] w fun e w' => e = .returned (u32v (rot x 12)) ∧ w = w' := by
  have hk : bits BinOp.and IntKind.u64 12 31 = 12 := by kernel_rfl
  go_enter Tryd.func94, Tryd.ntmps94
  go_wp2
  go_ret
  exact ⟨rfl, rfl⟩
set_option maxHeartbeats 400000 in
theorem rotl16_any (x : Reg) (w : World) : Calls Tryd.prog 94 #[u32v x, .int .i64 16] w fun e w' => e = .returned (u32v (rot x 16)) ∧ w = w' := by
  have hk : bits BinOp.and IntKind.u64 16 31 = 16 := by kernel_rfl
  go_enter Tryd.func94, Tryd.ntmps94
  go_wp2
  go_ret
  exact ⟨rfl, rfl⟩
set_option maxHeartbeats 400000 in
theorem rotr7_any (x : Reg) (w : World) : Calls Tryd.prog 94 #[u32v x, .int .i64 (-7)] w fun e w' => e = .returned (u32v (rot x 25)) ∧ w = w' := by
  have hk : bits BinOp.and IntKind.u64 (IntKind.u64.wrap (-7)) 31 = 25 := by kernel_rfl
  go_enter Tryd.func94, Tryd.ntmps94
  go_wp2
  go_ret
  exact ⟨rfl, rfl⟩
set_option maxHeartbeats 400000 in
theorem rotr8_any (x : Reg) (w : World) : Calls Tryd.prog 94 #[u32v x, .int .i64 (-8)] w fun e w' => e = .returned (u32v (rot x 24)) ∧ w = w' := by
  have hk : bits BinOp.and IntKind.u64 (IntKind.u64.wrap (-8)) 31 = 24 := by kernel_rfl
  go_enter Tryd.func94, Tryd.ntmps94
  go_wp2
  go_ret
  exact ⟨rfl, rfl⟩
set_option maxHeartbeats 400000 in
theorem rotr12_any (x : Reg) (w : World) : Calls Tryd.prog 94 #[u32v x, .int .i64 (-12)] w fun e w' => e = .returned (u32v (rot x 20)) ∧ w = w' := by
  have hk : bits BinOp.and IntKind.u64 (IntKind.u64.wrap (-12)) 31 = 20 := by kernel_rfl
  go_enter Tryd.func94, Tryd.ntmps94
  go_wp2
  go_ret
  exact ⟨rfl, rfl⟩
set_option maxHeartbeats 400000 in
theorem rotr16_any (x : Reg) (w : World) : Calls Tryd.prog 94 #[u32v x, .int .i64 (-16)] w fun e w' => e = .returned (u32v (rot x 16)) ∧ w = w' := by
  have hk : bits BinOp.and IntKind.u64 (IntKind.u64.wrap (-16)) 31 = 16 := by kernel_rfl
  go_enter Tryd.func94, Tryd.ntmps94
  go_wp2
  go_ret
  exact ⟨rfl, rfl⟩
end
end Go.Proofs.YthkccpemgmpadaaDoor

namespace Go.Proofs.YthkccpemgmpadaaDoor
set_option maxRecDepth 100000
open Go.RowKit

theorem four_lit (a b c d : UInt8) (r : List UInt8) : four (a :: b :: c :: d :: r) = oc a ||| oc b <<< 8 ||| oc c <<< 16 ||| oc d <<< 24 := rfl
theorem four_sum (a b c d : UInt8) : oc a + 256#32 * oc b + 65536#32 * oc c + 16777216#32 * oc d = oc a ||| oc b <<< 8 ||| oc c <<< 16 ||| oc d <<< 24 := by
  have e : ∀ (x : UInt8), (oc x).toNat = x.toNat := fun x => by
    have := x.toNat_lt
    simp [oc]
  have ha := a.toNat_lt; have hb := b.toNat_lt; have hc := c.toNat_lt; have hd := d.toNat_lt
  apply BitVec.eq_of_toNat_eq
  have o1 : (oc a ||| oc b <<< 8).toNat = a.toNat + 256 * b.toNat := by
    rw [BitVec.toNat_or, BitVec.toNat_shiftLeft, e, e, Nat.shiftLeft_eq, Nat.mod_eq_of_lt (by omega), Nat.or_comm, Nat.mul_comm, ← Nat.two_pow_add_eq_or_of_lt (by omega)]
    omega
  have o2 : (oc a ||| oc b <<< 8 ||| oc c <<< 16).toNat = a.toNat + 256 * b.toNat + 65536 * c.toNat := by
    rw [BitVec.toNat_or, o1, BitVec.toNat_shiftLeft, e, Nat.shiftLeft_eq, Nat.mod_eq_of_lt (by omega), Nat.or_comm, Nat.mul_comm c.toNat, ← Nat.two_pow_add_eq_or_of_lt (by omega)]
    omega
  have o3 : (oc a ||| oc b <<< 8 ||| oc c <<< 16 ||| oc d <<< 24).toNat = a.toNat + 256 * b.toNat + 65536 * c.toNat + 16777216 * d.toNat := by
    rw [BitVec.toNat_or, o2, BitVec.toNat_shiftLeft, e, Nat.shiftLeft_eq, Nat.mod_eq_of_lt (by omega), Nat.or_comm, Nat.mul_comm d.toNat, ← Nat.two_pow_add_eq_or_of_lt (by omega)]
    omega
  rw [o3]
  simp only [BitVec.toNat_add, BitVec.toNat_mul, BitVec.toNat_ofNat, e]
  omega

/-- The first four octets of a slice that reads so. -/
theorem Bs.four {lo hi : Nat} {w : World} {v : Value} {l : List UInt8} (h : Bs lo hi w v l) (h4 : 4 ≤ l.length) : ∃ b off c a0 a1 a2 a3 r, l = a0 :: a1 :: a2 :: a3 :: r ∧ v = .slice (some ⟨b, off, none⟩) l.length c ∧
    w.cell? ⟨b, off, none⟩ = some (u8v a0) ∧ w.cell? ⟨b, off + 1, none⟩ = some (u8v a1) ∧ w.cell? ⟨b, off + 2, none⟩ = some (u8v a2) ∧ w.cell? ⟨b, off + 3, none⟩ = some (u8v a3) := by
  obtain ⟨A, c, rfl, h1, h2, h3⟩ := h
  obtain ⟨b, off, rfl, _, _, hc⟩ := h3 (by omega)
  match l, h4 with
  | a0 :: a1 :: a2 :: a3 :: r, _ =>
    exact ⟨b, off, c, a0, a1, a2, a3, r, rfl, rfl, hc 0 (by simp), hc 1 (by simp), hc 2 (by simp), hc 3 (by simp)⟩

section
attribute [local go_sem] r_or r_add r_mul1 r_mul2 r_mul3 r_shl8 r_shl16 r_shl24 r_conv
set_option maxHeartbeats 400000 in
theorem number_any (lo hi : Nat) (v : Value) (l : List UInt8) (w : World) (h : Bs lo hi w v l) (h4 : 4 ≤ l.length) : Calls Tryd.prog 61 #[v] w fun e w' => e = .returned (u32v (four l)) ∧ ∃ m, w' = w.drewN m := by
  obtain ⟨b, off, c, a0, a1, a2, a3, r, e, rfl, c0, c1, c2, c3⟩ := h.four h4
  have hf : four l = oc a0 ||| oc a1 <<< 8 ||| oc a2 <<< 16 ||| oc a3 <<< 24 := by rw [e]; rfl
  have hn : (4 : Int) ≤ (l.length : Int) := by omega
  rw [hf]
  generalize l.length = n at *
  clear e hf h h4
  have n0 : (0 : Int) < (n : Int) := by omega
  have n1 : (1 : Int) < (n : Int) := by omega
  have n2 : (2 : Int) < (n : Int) := by omega
  have n3 : (3 : Int) < (n : Int) := by omega
  have d0 : 0 < n := by omega
  have d1 : 1 < n := by omega
  have d2 : 2 < n := by omega
  have d3 : 3 < n := by omega
  go_enter Tryd.func61, Tryd.ntmps61
  go_wp2_with (fail)
  go_quiet (fail)
  go_wp2
  go_ret
  exact ⟨rfl, _, rfl⟩
end
end Go.Proofs.YthkccpemgmpadaaDoor

namespace Go.Proofs.YthkccpemgmpadaaDoor
set_option maxRecDepth 100000
open Go.RowKit

theorem info5 : (Tryd.prog.info? 5).map (fun i => (i.zero, i.size, i.bytes)) = some (some (.int .u8 0), 1, 1) := by kernel_rfl
theorem info_parts {o : Option TypeInfo} {z : Value} {a b : Nat} (h : o.map (fun i => (i.zero, i.size, i.bytes)) = some (some z, a, b)) : ∃ i, o = some i ∧ i.zero = some z ∧ i.size = a ∧ i.bytes = b := by
  cases o with
  | none => cases h
  | some i => simp at h; exact ⟨i, rfl, h⟩

/-- A row of bytes of the call's own. -/
abbrev OwnB (w : World) (base : Nat) (v : Value) (l : List UInt8) : Prop := w.ownsRow base 5 1 v l.length (l.map u8v)
theorem OwnB.form {w : World} {base : Nat} {v : Value} {l : List UInt8} (h : OwnB w base v l) : ∃ A c, v = .slice A l.length c := ownsRow_form h

theorem add_none (b off i : Nat) : (⟨b, off, none⟩ : Addr).add i = ⟨b, off + i, none⟩ := by
  unfold Addr.add
  split
  · rename_i h; subst h; rfl
  · rfl
theorem oct_src {w : World} {g : Nat} {t : TypeId} {a b c d : UInt8} (h : Blk w g t #[u8v a, u8v b, u8v c, u8v d]) : SrcOk w (some ⟨g, 0, none⟩) 4 ([a, b, c, d].map u8v) := fun _ => by
  refine ⟨_, rfl, fun j u hu => ?_⟩
  rw [add_none, h.cell, Nat.zero_add]
  simpa using hu
theorem oct_bs {w : World} {g : Nat} {t : TypeId} {a b c d : UInt8} (h : Blk w g t #[u8v a, u8v b, u8v c, u8v d]) (lo : Nat) (hlo : lo ≤ g) : Bs lo w.heap.size w (.slice (some ⟨g, 0, none⟩) 4 4) [a, b, c, d] := by
  refine ⟨_, 4, rfl, by simp, by omega, fun _ => ⟨g, 0, rfl, hlo, h.lt, fun i hi => ?_⟩⟩
  rw [h.cell]
  match i, hi with
  | 0, _ => rfl
  | 1, _ => rfl
  | 2, _ => rfl
  | 3, _ => rfl

theorem bl_app {base : Nat} {w w' : World} {o : Obj} {e : TypeId} {k : Nat} {v : Value} {n : Nat} {xs : List Value} (hb : base ≤ w.heap.size) (hown : w.ownsRow base e k v n xs) (hg : (w.alloc o).grownBy w' v.ownBlock) : Below base w w' :=
  ((Below.refl _ _).alloc hb _).grown hg (by simp; omega) (own_base hown)
theorem le_alloc {base : Nat} {w : World} {o : Obj} (hb : base ≤ w.heap.size) : base ≤ (w.alloc o).heap.size := by simp; omega
section
attribute [local go_sem] r_shr8 r_shr16 r_shr24 r_low
set_option maxHeartbeats 1000000 in
theorem tell_any (base : Nat) (v : Value) (l : List UInt8) (x : Reg) (w : World) (hown : OwnB w base v l) (hb : base ≤ w.heap.size) (hL : l.length ≤ 1000000) :
    Calls Tryd.prog 60 #[v, u32v x] w fun e w' => ∃ v', e = .returned v' ∧ OwnB w' base v' (l ++ oct x) ∧ Below base w w' := by
  obtain ⟨i0, hi0, hz0, hz1, hz2⟩ := info_parts info5
  have hl2 : ((oct x).map u8v).length = 4 * 1 := rfl
  have ho2 := u8s_one (oct x)
  have b3 : l.length + 4 ≤ maxLen := by simp only [maxLen]; omega
  have b4 : (l.length + 4) * 1 ≤ 140737488355328 := by omega
  have hs : (l ++ oct x).length = l.length + 4 := by simp [oct]
  have hf : oct x = [⟨x.setWidth 8⟩, ⟨(x >>> 8).setWidth 8⟩, ⟨(x >>> 16).setWidth 8⟩, ⟨(x >>> 24).setWidth 8⟩] := rfl
  have hq := hown.form
  replace hl2 := hide hl2; replace ho2 := hide ho2; replace b3 := hide b3; replace b4 := hide b4; replace hs := hide hs; replace hf := hide hf; replace hown := hide hown; replace hb := hide hb
  obtain ⟨A, c, rfl⟩ := hq
  clear hL
  go_enter Tryd.func60, Tryd.ntmps60
  go_wp2_with (first
    | (at_builtin
       simp only [r_low]
       refine wpList_app _ rfl (.tmp 5) (.tmp 17) 31 rfl base 5 i0 _ 1 1 Tryd.underlying31 hi0 hz0 hz1 hz2 rfl (Nat.succ_pos _) _ l.length (l.map u8v) rfl ((unhide hown).alloc _) (some ⟨w.heap.size, 0, none⟩) 4 4 _ rfl (unhide hl2) (oct_src (Blk.new rfl)) (unhide ho2) (unhide b3) (unhide b4) (le_alloc (unhide hb)) ?_
       intro v4 w4 hown4 hg4
       have hb4 : Below base w w4 := bl_app (unhide hb) (unhide hown) hg4
       replace hown4 := hide hown4)
    | fail)
  go_ret
  refine ⟨v4, rfl, ?_, hb4⟩
  have := unhide hown4
  rw [← List.map_append] at this
  unfold OwnB
  rw [unhide hs]
  exact this
end
end Go.Proofs.YthkccpemgmpadaaDoor

namespace Go.Proofs.YthkccpemgmpadaaDoor
set_option maxRecDepth 100000
open Go.RowKit

/-- A number's octets, as cells. -/
def octC (x : Reg) : Array Value := #[u8v ⟨x.setWidth 8⟩, u8v ⟨(x >>> 8).setWidth 8⟩, u8v ⟨(x >>> 16).setWidth 8⟩, u8v ⟨(x >>> 24).setWidth 8⟩]
theorem r_tm (x : Reg) : (n32 x).tmod (256 : Int) = n8 (⟨x.setWidth 8⟩ : UInt8) := by
  rw [Int.tmod_eq_emod_of_nonneg (by unfold n32; omega)]; exact r_low x
theorem r_td1 (x : Reg) : (n32 x).tdiv (256 : Int) = n32 (x >>> 8) := by
  rw [Int.tdiv_eq_ediv_of_nonneg (by unfold n32; omega)]; exact r_shr8 x
theorem r_td2 (x : Reg) : (n32 x).tdiv (65536 : Int) = n32 (x >>> 16) := by
  rw [Int.tdiv_eq_ediv_of_nonneg (by unfold n32; omega)]; exact r_shr16 x
theorem r_td3 (x : Reg) : (n32 x).tdiv (16777216 : Int) = n32 (x >>> 24) := by
  rw [Int.tdiv_eq_ediv_of_nonneg (by unfold n32; omega)]; exact r_shr24 x
section
end

theorem below_drewN {B : Nat} {a w : World} (h : Below B a w) (n : Nat) : Below B a (w.drewN n) := ⟨h.os, h.tape, h.output, h.size, h.block⟩
theorem Blk.row {w : World} {g : Nat} {t : TypeId} {cs : Array Value} (h : Blk w g t cs) (C : Array Value) : Blk (w.setRow g C) g t C := setRow_heap w g _ C t _ h
theorem Blk.row_other {w : World} {g g' : Nat} {t : TypeId} {cs : Array Value} (h : Blk w g t cs) (C : Array Value) (hne : g ≠ g') : Blk (w.setRow g' C) g t cs := (setRow_other w g' g C hne).trans h
theorem bl_row {B g : Nat} {a w : World} (h : Below B a w) (C : Array Value) (hg : B ≤ g) : Below B a (w.setRow g C) :=
  h.trans ⟨rfl, rfl, rfl, by simp [World.setRow], fun k hk => setRow_other w g k C (by omega)⟩
theorem size24 : (Tryd.prog.info? 24).map (·.size) = some 4 := by kernel_rfl
/-- A state, by value, and as cells. -/
abbrev stC (s : St) : Array Value := #[u32v s.a, u32v s.b, u32v s.c, u32v s.d]
abbrev stV (s : St) : Value := .agg (stC s)
abbrev zC : Array Value := #[.int .u32 0, .int .u32 0, .int .u32 0, .int .u32 0]
theorem stC_one (s : St) : (stC s).all (·.oneCell') = true := by simp [Value.oneCell']

section
attribute [local go_sem] r_xor r_add r_add1 r_stamp
set_option maxHeartbeats 400000 in
theorem round_any (s : St) (k : Nat) (w : World) (ht : Tab w) : Calls Tryd.prog 91 #[stV s, u32v (BitVec.ofNat 32 k)] w fun e w' => e = .returned (stV (rnd k s)) ∧ Below w.heap.size w w' := by
  have hb : Below w.heap.size w ((w.alloc (.cells (stC s) 24)).alloc (.cells #[.int .u32 0, .int .u32 0, .int .u32 0, .int .u32 0] 24)) := bl_alloc (bl_alloc (Below.refl _ _) _) _
  have hK : rnd k s = (let a1 := s.a + s.b
    let d1 := rot (s.d ^^^ a1) 16
    let c1 := s.c + d1
    let b1 := rot (s.b ^^^ c1) 12
    let a2 := a1 + b1
    let d2 := rot (d1 ^^^ a2) 8
    let c2 := c1 + d2
    let b2 := rot (b1 ^^^ c2) 7
    ⟨b2, c2, d2, a2 ^^^ (BitVec.ofNat 32 k + 1#32) * 2654435769#32⟩) := rfl
  rw [hK]
  simp only []
  clear hK
  generalize BitVec.ofNat 32 k = q
  obtain ⟨a, b, c, d⟩ := s
  have ht1 := ht.below hb (Nat.le_refl _)
  obtain ⟨l0, t0, t1, t2, t3⟩ := ht
  have hB : Blk ((w.alloc (.cells (stC ⟨a, b, c, d⟩) 24)).alloc (.cells zC 24)) w.heap.size 24 (stC ⟨a, b, c, d⟩) := Blk.alloc (Blk.new rfl) _
  have hZ : Blk ((w.alloc (.cells (stC ⟨a, b, c, d⟩) 24)).alloc (.cells zC 24)) (w.heap.size + 1) 24 zC := Blk.new (by simp)
  replace hZ := hide hZ
  replace hB := hide hB; replace hb := hide hb; replace ht1 := hide ht1
  go_enter Tryd.func91, Tryd.ntmps91
  go_upto_region 1 with (fail)
  generalize hW : World.alloc (World.alloc w _) _ = W at *
  have c0 : W.cell? ⟨w.heap.size, 0, none⟩ = some (u32v a) := by rw [(unhide hB).cell]; rfl
  have c1 : W.cell? ⟨w.heap.size, 1, none⟩ = some (u32v b) := by rw [(unhide hB).cell]; rfl
  have c2 : W.cell? ⟨w.heap.size, 2, none⟩ = some (u32v c) := by rw [(unhide hB).cell]; rfl
  have c3 : W.cell? ⟨w.heap.size, 3, none⟩ = some (u32v d) := by rw [(unhide hB).cell]; rfl
  obtain ⟨l1, e0, e1, e2, e3⟩ := unhide ht1
  clear t0 t1 t2 t3 hW
  go_quiet (fail)
  have tok1 : True := trivial
  have tok2 : True := trivial
  have tok3 : True := trivial
  have tok4 : True := trivial
  go_wp2_with (first
    | (go_at_call 94; have _t := tok1; simp only [r_add]; refine (rotl16_any _ _).mono ?_; rintro e w1 ⟨rfl, rfl⟩; clear tok1 _t)
    | (go_at_call 94; have _t := tok2; simp only [r_add]; refine (rotl12_any _ _).mono ?_; rintro e w1 ⟨rfl, rfl⟩; clear tok2 _t)
    | (go_at_call 94; have _t := tok3; simp only [r_add]; refine (rotl8_any _ _).mono ?_; rintro e w1 ⟨rfl, rfl⟩; clear tok3 _t)
    | (go_at_call 94; have _t := tok4; simp only [r_add]; refine (rotl7_any _ _).mono ?_; rintro e w1 ⟨rfl, rfl⟩; clear tok4 _t)
    | (refine wpList_store_row rfl 24 (.tmp 4) (.tmp 62) rfl (w.heap.size + 1) (stC ⟨_, _, _, _⟩) rfl rfl 24 zC ((unhide hZ).drewN nq) size24 rfl (stC_one _) ?_)
    | fail)
  exact bodyPost_ret (v := stV _) (results_cell_row Tryd.results91 _ _ _ _ _ (0, 0) _ rfl (((unhide hZ).drewN nq).row _) Tryd.underlying24 rfl size24) rfl ⟨rfl, bl_row (below_drewN (unhide hb) nq) _ (by omega)⟩
end
end Go.Proofs.YthkccpemgmpadaaDoor

namespace Go.Proofs.YthkccpemgmpadaaDoor
set_option maxRecDepth 100000
open Go.RowKit

section
attribute [local go_sem] r_xor r_add r_sub r_add1 r_stamp
end
end Go.Proofs.YthkccpemgmpadaaDoor

namespace Go.Proofs.YthkccpemgmpadaaDoor
set_option maxRecDepth 100000
open Go.RowKit

theorem u32_lit {k : Nat} (h : k < 4294967296) : Value.int .u32 (k : Int) = u32v (BitVec.ofNat 32 k) := by rw [n32_lit k h]
theorem unrs_last (k : Nat) (s : St) : unrs (k + 1) s = unrs k (unr k s) := rfl
/-- The last 'j' of eight rounds taken back. -/
def unl : Nat → St → St
  | 0, s => s
  | j + 1, s => unr (7 - j) (unl j s)
theorem unl_unrs (j : Nat) (h : j ≤ 8) (s : St) : unrs (8 - j) (unl j s) = unrs 8 s := by
  induction j with
  | zero => rfl
  | succ j ih =>
    rw [← ih (by omega), unl]
    have e : 8 - j = (8 - (j + 1)) + 1 := by omega
    rw [e, unrs]
    have e2 : 8 - (j + 1) = 7 - j := by omega
    rw [e2]
theorem unl_back (s : St) : unl 8 s = backF s := unl_unrs 8 (Nat.le_refl _) s

set_option maxHeartbeats 1000000 in
theorem perm_any (s : St) (w : World) (ht : Tab w) : Calls Tryd.prog 86 #[stV s] w fun e w' => e = .returned (stV (permF s)) ∧ Below w.heap.size w w' := by
  have hr := fun (k : Nat) (hk : k < 8) (S : St) W (hb : Below w.heap.size w W) => show Calls Tryd.prog 91 #[stV S, .int .u32 ((k : Nat) : Int)] W _ by rw [u32_lit (by omega)]; exact round_any S k W (ht.below hb (Nat.le_refl _))
  have hb : Below w.heap.size w ((w.alloc (.cells (stC s) 24)).alloc (.cells zC 24)) := bl_alloc (bl_alloc (Below.refl _ _) _) _
  have hB : Blk ((w.alloc (.cells (stC s) 24)).alloc (.cells zC 24)) w.heap.size 24 (stC (rnds 0 s)) := Blk.alloc (Blk.new rfl) _
  have hZ : Blk ((w.alloc (.cells (stC s) 24)).alloc (.cells zC 24)) (w.heap.size + 1) 24 zC := Blk.new (by simp)
  replace hZ := hide hZ; replace hB := hide hB; replace hb := hide hb; replace hr := hide hr
  go_enter Tryd.func86, Tryd.ntmps86
  go_upto_region 1 with (fail)
  generalize hW : World.alloc (World.alloc w _) _ = W at *
  clear hW
  go_wp2
  go_loopw [4] (fun i wr => ∃ k : Nat, k ≤ 8 ∧ i = .int .u32 k ∧ Hid (Blk wr w.heap.size 24 (stC (rnds k s))) ∧ Hid (Blk wr (w.heap.size + 1) 24 zC) ∧ Hid (Below w.heap.size w wr)) (fun i _ => 8 - (intOf i).toNat)
  case atStart => exact ⟨0, by omega, rfl, hB, hZ, hb⟩
  case round =>
    obtain ⟨k, hk, rfl, B0, B1, b⟩ := hrel
    by_cases hlt : k < 8
    · have hcall := unhide hr k hlt (rnds k s) wr (unhide b)
      have l0 := (unhide B0).lt
      have l1 := (unhide B1).lt
      have hn : rnd k (rnds k s) = rnds (k + 1) s := rfl
      have k1 : (k : Int) < 8 := by omega
      have k2 : (0 : Int) ≤ (k : Int) := by omega
      skip
      replace hn := hide hn
      generalize rnds k s = S at *
      generalize hS' : rnd k S = S' at *
      clear hS'
      replace hcall := hide hcall
      go_wp2_with (first
        | (refine wpList_load_row rfl 24 (.tmp 1) rfl w.heap.size rfl 24 (stC S) (0, 0) _ (unhide B0) Tryd.underlying24 rfl size24 ?_)
        | (go_at_call 91; refine (unhide hcall).mono ?_; rintro e w1 ⟨rfl, hb1⟩; have C0 := Blk.below (unhide B0) hb1 l0; have C1 := Blk.below (unhide B1) hb1 l1; have bb := bl_call (unhide b) hb1; replace C0 := hide C0; replace C1 := hide C1; replace bb := hide bb)
        | (refine wpList_store_row rfl 24 (.tmp 1) (.tmp 9) rfl w.heap.size (stC S') rfl rfl 24 (stC S) (unhide C0) size24 rfl (stC_one _) ?_)
        | fail)
      have D0 := (unhide C0).row (stC S')
      have D1 := (unhide C1).row_other (g' := w.heap.size) (stC S') (by omega)
      have db := bl_row (g := w.heap.size) (unhide bb) (stC S') (Nat.le_refl _)
      rw [unhide hn] at D0 D1 db ⊢
      go_roundw
      case rel => exact ⟨k + 1, by omega, by go_num, D0, D1, db⟩
      case measure => simp [intOf]; omega
    · obtain rfl : k = 8 := by omega
      have hs : rnds 8 s = permF s := rfl
      rw [hs] at B0
      clear hs
      obtain ⟨S, hS⟩ : ∃ S, S = permF s := ⟨_, rfl⟩
      rw [← hS] at B0
      replace hS := hide hS
      go_wp2_with (first
        | (refine wpList_load_row rfl 24 (.tmp 1) rfl w.heap.size rfl 24 (stC S) (0, 0) _ (unhide B0) Tryd.underlying24 rfl size24 ?_)
        | (refine wpList_store_row rfl 24 (.tmp 2) (.tmp 11) rfl (w.heap.size + 1) (stC S) rfl rfl 24 zC (unhide B1) size24 rfl (stC_one _) ?_)
        | fail)
      exact bodyPost_ret (v := stV _) (results_cell_row Tryd.results86 _ _ _ _ _ (0, 0) _ rfl ((unhide B1).row _) Tryd.underlying24 rfl size24) rfl ⟨by rw [unhide hS], bl_row (unhide b) _ (by omega)⟩

end Go.Proofs.YthkccpemgmpadaaDoor

namespace Go.Proofs.YthkccpemgmpadaaDoor
set_option maxRecDepth 100000
open Go.RowKit

/-- A state's numbers, by place. -/
def sg (s : St) : Nat → Reg
  | 0 => s.a
  | 1 => s.b
  | 2 => s.c
  | _ => s.d
/-- The octets of the first 'k' numbers. -/
def octA (s : St) : Nat → List UInt8
  | 0 => []
  | k + 1 => octA s k ++ oct (sg s k)
theorem octA_len (s : St) (k : Nat) : (octA s k).length = 4 * k := by
  induction k with
  | zero => rfl
  | succ k ih => rw [octA, List.length_append, ih, oct_len]; omega
theorem octA_all (s : St) : octA s 4 = octs4 s := rfl
theorem run_index24 (s : St) (k : Nat) (h : k < 4) (W : World) : (Instr.index 24 (stV s) (.int .i64 (k : Int))).run Tryd.prog W = .ok (u32v (sg s k)) W := by
  have hs : (sizeOf 22).run Tryd.prog W = .ok 1 W := by kernel_rfl
  have h1 : (0 : Int) ≤ (k : Int) ∧ (k : Int) < ((4 : Nat) : Int) := by omega
  match k, h with
  | 0, _ => simp [Instr.index, asIntOf, run_underlying Tryd.underlying24, hs, part, sg]
  | 1, _ => simp [Instr.index, asIntOf, run_underlying Tryd.underlying24, hs, part, sg]
  | 2, _ => simp [Instr.index, asIntOf, run_underlying Tryd.underlying24, hs, part, sg]
  | 3, _ => simp [Instr.index, asIntOf, run_underlying Tryd.underlying24, hs, part, sg]

/-- 'make([]T, 0, c)', for every world. -/
theorem run_mk0 {P : Program} (t e : TypeId) (i : TypeInfo) (z : Value) (size : Nat) (ht : P.underlying t = some (.slice e)) (hi : P.info? e = some i) (hz : i.zero = some z) (hsize : i.size = size)
    (c : Nat) (hbytes : i.bytes * c ≤ 281474976710656) (h63 : c ≤ 9223372036854775807) (W : World) :
    (Instr.makeSlice t (.int .i64 0) (.int .i64 (c : Int))).run P W = .ok (.slice (some ⟨W.heap.size, 0, none⟩) 0 c) (W.alloc (.cells (madeCells z.cells (c * size)) e)) := by
  subst hsize
  have hb' : (i.bytes : Int) * (c : Int) ≤ 281474976710656 := by
    have h : ((i.bytes * c : Nat) : Int) ≤ 281474976710656 := by omega
    rwa [Int.natCast_mul] at h
  have hr := run_make (P := P) W t e i z ht hi hz .i64 .i64 0 c (by omega) (by omega) hb' (by omega)
  simp only [Int.toNat_natCast] at hr
  exact hr
theorem mk8 (c : Nat) (hc : c ≤ 1000000) (W : World) : ∃ cs : Array Value, cs.size = c * 1 ∧ (Instr.makeSlice 31 (.int .i64 0) (.int .i64 (c : Int))).run Tryd.prog W = .ok (.slice (some ⟨W.heap.size, 0, none⟩) 0 c) (W.alloc (.cells cs 5)) := by
  obtain ⟨i0, hi0, hz0, hz1, hz2⟩ := info_parts info5
  have h := run_mk0 (P := Tryd.prog) 31 5 i0 _ 1 Tryd.underlying31 hi0 hz0 hz1 c (by rw [hz2]; omega) (by omega) W
  exact ⟨_, by simp [madeCells, Value.cells], h⟩

set_option maxHeartbeats 1000000 in
theorem Octets_any (s : St) (w : World) : Calls Tryd.prog 41 #[stV s] w fun e w' => ∃ v, e = .returned v ∧ OwnB w' w.heap.size v (octs4 s) ∧ Below w.heap.size w w' := by
  have hB : Blk (w.alloc (.cells (stC s) 24)) w.heap.size 24 (stC s) := Blk.new rfl
  have hb : Below w.heap.size w (w.alloc (.cells (stC s) 24)) := bl_alloc (Below.refl _ _) _
  have hsz : (w.alloc (.cells (stC s) 24)).heap.size = w.heap.size + 1 := by simp
  replace hB := hide hB; replace hb := hide hb; replace hsz := hide hsz
  go_enter Tryd.func41, Tryd.ntmps41
  go_upto_region 1 with (fail)
  generalize hW : World.alloc w _ = W at *
  clear hW
  obtain ⟨cs, hcs, hmk⟩ := show ∃ cs : Array Value, cs.size = 16 * 1 ∧ (Instr.makeSlice 31 (.int .i64 0) (.int .i64 16)).run Tryd.prog W = .ok (.slice (some ⟨W.heap.size, 0, none⟩) 0 16) (W.alloc (.cells cs 5)) from mk8 16 (by omega) W
  have hown : OwnB (W.alloc (.cells cs 5)) w.heap.size (.slice (some ⟨W.heap.size, 0, none⟩) 0 16) (octA s 0) := own_fresh W _ _ 5 1 16 cs rfl (by rw [unhide hsz]; omega) (by simp [maxLen]) hcs
  have hb1 : Below w.heap.size w (W.alloc (.cells cs 5)) := bl_alloc (unhide hb) _
  have hB1 : Blk (W.alloc (.cells cs 5)) w.heap.size 24 (stC s) := Blk.alloc (unhide hB) _
  have hix := run_index24 s
  have hg : W.heap.size = w.heap.size + 1 := unhide hsz
  rw [hg] at hown hmk
  replace hown := hide hown; replace hb1 := hide hb1; replace hB1 := hide hB1; replace hix := hide hix; replace hcs := hide hcs
  clear hB hb hsz hg
  go_upto_region 2 with (fail)
  generalize hW1 : World.alloc W _ = W1 at *
  clear hW1 hmk
  go_wp2_with (first
    | (refine wpList_load_row rfl 24 (.tmp 1) rfl w.heap.size rfl 24 (stC s) (0, 0) _ (unhide hB1) Tryd.underlying24 rfl size24 ?_)
    | fail)
  go_loopw [3, 8] (fun v i wr => ∃ k : Nat, k ≤ 4 ∧ i = .int .i64 k ∧ (∃ A c, v = .slice A (4 * k) c) ∧ Hid (OwnB wr w.heap.size v (octA s k)) ∧ Hid (Below w.heap.size w wr)) (fun _ i _ => 4 - (intOf i).toNat)
  case atStart => exact ⟨0, by omega, rfl, ⟨_, _, rfl⟩, hown, hb1⟩
  case round =>
    obtain ⟨k, hk, rfl, ⟨A, c, rfl⟩, o, b⟩ := hrel
    by_cases hlt : k < 4
    · have hx := unhide hix k hlt
      have hn : octA s k ++ oct (sg s k) = octA s (k + 1) := rfl
      have hl := octA_len s (k + 1)
      have hcall := tell_any w.heap.size _ (octA s k) (sg s k) wr (unhide o) (unhide b).size (by rw [octA_len]; omega)
      rw [hn] at hcall
      have k1 : (k : Int) < 4 := by omega
      generalize sg s k = q at *
      replace hcall := hide hcall; replace hl := hide hl
      clear hn
      go_wp2_with (first
        | (go_at_call 60; refine (unhide hcall).mono ?_; rintro e w1 ⟨v1, rfl, o1, hb1⟩; obtain ⟨A1, c1, rfl⟩ := o1.form; replace o1 := hide o1)
        | fail)
      go_roundw
      case rel => exact ⟨k + 1, by omega, by go_num, ⟨A1, c1, by rw [unhide hl]⟩, o1, (unhide b).trans hb1⟩
      case measure => simp [intOf]; omega
    · obtain rfl : k = 4 := by omega
      go_wp2
      go_ret
      exact ⟨_, rfl, unhide o, unhide b⟩
end Go.Proofs.YthkccpemgmpadaaDoor

namespace Go.Proofs.YthkccpemgmpadaaDoor
set_option maxRecDepth 100000
open Go.RowKit

theorem octC_src (w : World) (q : Reg) : SrcOk (w.alloc (.cells (octC q) 5)) (some ⟨w.heap.size, 0, none⟩) 4 ((oct q).map u8v) := oct_src (t := 5) (Blk.new rfl)
theorem own_app {w : World} {base : Nat} {v : Value} {l m : List UInt8} {n : Nat} (h : w.ownsRow base 5 1 v n (l.map u8v ++ m.map u8v)) (hn : n = (l ++ m).length) : OwnB w base v (l ++ m) := by
  rw [← List.map_append] at h
  subst hn
  exact h

end Go.Proofs.YthkccpemgmpadaaDoor

namespace Go.Proofs.YthkccpemgmpadaaDoor
set_option maxRecDepth 100000
open Go.RowKit

/-! ### states compared -/
theorem eqInt22 (w : World) (d : Nat) (a b : Int) : (Op.equalIn (d + 1) 22 (.int .u32 a) (.int .u32 b)).run Tryd.prog w = .ok (a == b) w := run_equalIn_int w d 22 .u32 .u32 a b Tryd.underlying22
theorem part22_0 (w : World) (a b c d : Value) : (part 22 #[a, b, c, d] 0).run Tryd.prog w = .ok a w := by kernel_rfl
theorem part22_1 (w : World) (a b c d : Value) : (part 22 #[a, b, c, d] 1).run Tryd.prog w = .ok b w := by kernel_rfl
theorem part22_2 (w : World) (a b c d : Value) : (part 22 #[a, b, c, d] 2).run Tryd.prog w = .ok c w := by kernel_rfl
theorem part22_3 (w : World) (a b c d : Value) : (part 22 #[a, b, c, d] 3).run Tryd.prog w = .ok d w := by kernel_rfl
theorem size22 (w : World) : (sizeOf 22).run Tryd.prog w = .ok 1 w := by kernel_rfl
/-- Are two states the same? -/
def sameS (s t : St) : Bool := decide (s = t)
theorem sameS_iff {s t : St} : sameS s t = true ↔ s = t := by simp [sameS]
theorem sameS_self (s : St) : sameS s s = true := sameS_iff.2 rfl
theorem same4_iff (s t : St) : (n32 s.a == n32 t.a && n32 s.b == n32 t.b && n32 s.c == n32 t.c && n32 s.d == n32 t.d) = sameS s t := by
  rw [Bool.eq_iff_iff, sameS_iff]
  simp only [Bool.and_eq_true, beq_iff_eq]
  constructor
  · rintro ⟨⟨⟨h0, h1⟩, h2⟩, h3⟩; exact St.eq (n32_inj h0) (n32_inj h1) (n32_inj h2) (n32_inj h3)
  · rintro rfl; exact ⟨⟨⟨rfl, rfl⟩, rfl⟩, rfl⟩
theorem equalIn_st (w : World) (s t : St) : (Op.equalIn 10000 24 (stV s) (stV t)).run Tryd.prog w = .ok (sameS s t) w := by
  rw [← same4_iff]
  obtain ⟨a, b, c, d⟩ := s
  obtain ⟨a', b', c', d'⟩ := t
  show (Op.equalIn 10000 24 (.agg #[.int .u32 (n32 a), .int .u32 (n32 b), .int .u32 (n32 c), .int .u32 (n32 d)]) (.agg #[.int .u32 (n32 a'), .int .u32 (n32 b'), .int .u32 (n32 c'), .int .u32 (n32 d')])).run Tryd.prog w = _
  simp only []
  generalize n32 a = xa, n32 b = xb, n32 c = xc, n32 d = xd, n32 a' = ya, n32 b' = yb, n32 c' = yc, n32 d' = yd
  rw [show (10000 : Nat) = 9998 + 1 + 1 from rfl, Op.equalIn]
  simp only [Sem.run_bind, run_underlying Tryd.underlying24, Result.andThen_ok, size22]
  simp only [Std.Legacy.Range.forIn_eq_forIn_range', Std.Legacy.Range.size, List.range', Nat.sub_zero, Nat.add_one_sub_one, Nat.div_one, List.forIn_cons, List.forIn_nil, Sem.run_bind, Nat.mul_one, part22_0, Result.andThen_ok, Nat.zero_add, Nat.reduceAdd, eqInt22]
  cases h0 : xa == ya <;> cases h1 : xb == yb <;> cases h2 : xc == yc <;> cases h3 : xd == yd <;> simp [part22_1, part22_2, part22_3, eqInt22, h1, h2, h3, Result.andThen]
theorem eql_st (w : World) (s t : St) : (binOp .eql 24 (stV s) (stV t)).run Tryd.prog w = .ok (.bool (sameS s t)) w := by
  rw [run_eql_struct, equalIn_st]
  rfl
theorem guard24 : Tryd.prog.eqGuardType Tryd.prog.depth 24 = false := by kernel_rfl

/-! ### slices of octets -/
theorem elem28 : Tryd.prog.underlying 31 = some (.slice (Tryd.prog.elem 31)) := by kernel_rfl
theorem size5e : ∀ W, (sizeOf (Tryd.prog.elem 31)).run Tryd.prog W = .ok 1 W := fun W => by kernel_rfl
theorem slice_lh (A : Option Addr) (n c i j : Nat) (hij : i ≤ j) (hj : j ≤ c) (W : World) :
    (Instr.slice 31 (.slice A n c) (some (.int .i64 (i : Int))) (some (.int .i64 (j : Int))) none).run Tryd.prog W = .ok (sliced A i j c 1) W := by
  rw [run_slice_lh (P := Tryd.prog) W 31 A n c elem28 .i64 .i64 i j (by omega) (by omega) (by omega), size5e]
  simp [Result.andThen]
theorem slice_h (A : Option Addr) (n c j : Nat) (hj : j ≤ c) (W : World) :
    (Instr.slice 31 (.slice A n c) none (some (.int .i64 (j : Int))) none).run Tryd.prog W = .ok (sliced A 0 j c 1) W := by
  rw [run_slice_h (P := Tryd.prog) W 31 A n c elem28 .i64 j (by omega) (by omega), size5e]
  simp [Result.andThen]
theorem slice_l (A : Option Addr) (n c i : Nat) (hi : i ≤ n) (W : World) :
    (Instr.slice 31 (.slice A n c) (some (.int .i64 (i : Int))) none none).run Tryd.prog W = .ok (sliced A i n c 1) W := by
  rw [run_slice_l (P := Tryd.prog) W 31 A n c elem28 .i64 i (by omega) (by omega), size5e]
  simp [Result.andThen]
theorem Bs.part {lo hi : Nat} {w : World} {A : Option Addr} {n c : Nat} {l : List UInt8} (h : Bs lo hi w (.slice A n c) l) (i j : Nat) (hij : i ≤ j) (hj : j ≤ l.length) :
    ∃ A', sliced A i j c 1 = .slice A' (j - i) (c - i) ∧ Bs lo hi w (.slice A' (j - i) (c - i)) ((l.drop i).take (j - i)) := by
  obtain ⟨A0, c0, e, h1, h2, h3⟩ := h
  injection e with e1 e2 e3
  subst e1 e2 e3
  refine ⟨if c = i then A else A.map (·.add (i * 1)), rfl, ?_⟩
  have hlen : ((l.drop i).take (j - i)).length = j - i := by rw [List.length_take, List.length_drop]; omega
  refine ⟨_, c - i, by rw [hlen], by omega, by omega, fun h0 => ?_⟩
  obtain ⟨b, off, rfl, hb, hb', hc⟩ := h3 (by omega)
  refine ⟨b, off + i, ?_, hb, hb', fun k hk => ?_⟩
  · rw [if_neg (by omega), Nat.mul_one, Option.map_some, add_none]
  · rw [hlen] at hk
    have := hc (i + k) (by omega)
    rw [← Nat.add_assoc] at this
    rw [this]
    simp
/-- A part of a slice: what the operation answers, and what that reads as. -/
theorem Bs.cut_lh {lo hi : Nat} {w : World} {A : Option Addr} {n c : Nat} {l : List UInt8} (h : Bs lo hi w (.slice A n c) l) (i j : Nat) (I J : Int) (hI : I = (i : Int)) (hJ : J = (j : Int)) (hij : i ≤ j) (hj : j ≤ l.length) :
    ∃ A' c', (∀ W, (Instr.slice 31 (.slice A n c) (some (.int .i64 I)) (some (.int .i64 J)) none).run Tryd.prog W = .ok (.slice A' (j - i) c') W) ∧ Bs lo hi w (.slice A' (j - i) c') ((l.drop i).take (j - i)) := by
  subst hI hJ
  obtain ⟨A', e, hb⟩ := h.part i j hij hj
  obtain ⟨A0, c0, e0, h1, _⟩ := h
  injection e0 with _ _ e3
  exact ⟨A', c - i, fun W => by rw [slice_lh A n c i j hij (by omega), e], hb⟩
theorem Bs.cut_h {lo hi : Nat} {w : World} {A : Option Addr} {n c : Nat} {l : List UInt8} (h : Bs lo hi w (.slice A n c) l) (j : Nat) (J : Int) (hJ : J = (j : Int)) (hj : j ≤ l.length) :
    ∃ A' c', (∀ W, (Instr.slice 31 (.slice A n c) none (some (.int .i64 J)) none).run Tryd.prog W = .ok (.slice A' j c') W) ∧ Bs lo hi w (.slice A' j c') (l.take j) := by
  subst hJ
  obtain ⟨A', e, hb⟩ := h.part 0 j (Nat.zero_le _) hj
  obtain ⟨A0, c0, e0, h1, _⟩ := h
  injection e0 with _ _ e3
  exact ⟨A', c, fun W => by rw [slice_h A n c j (by omega), e]; rfl, hb⟩
theorem Bs.cut_l {lo hi : Nat} {w : World} {A : Option Addr} {n c : Nat} {l : List UInt8} (h : Bs lo hi w (.slice A n c) l) (i : Nat) (I : Int) (hI : I = (i : Int)) (hi' : i ≤ l.length) :
    ∃ A' c', (∀ W, (Instr.slice 31 (.slice A n c) (some (.int .i64 I)) none none).run Tryd.prog W = .ok (.slice A' (l.length - i) c') W) ∧ Bs lo hi w (.slice A' (l.length - i) c') (l.drop i) := by
  subst hI
  obtain ⟨A', e, hb⟩ := h.part i l.length hi' (Nat.le_refl _)
  obtain ⟨A0, c0, e0, h1, _⟩ := h
  injection e0 with _ e2 e3
  subst e2
  rw [List.take_of_length_le (by simp)] at hb
  exact ⟨A', c - i, fun W => by rw [slice_l A _ c i hi', e], hb⟩

/-! ### octets compared -/
/-- The string of bytes. -/
def strU (l : List UInt8) : ByteArray := strOfNums (l.map n8)
theorem Bs.convert {lo hi : Nat} {w : World} {v : Value} {l : List UInt8} (h : Bs lo hi w v l) : (convert 31 9 v).run Tryd.prog w = .ok (.string (strU l)) w := by
  obtain ⟨A, c, rfl, h1, h2, h3⟩ := h
  rcases Nat.eq_zero_or_pos l.length with h0 | h0
  · obtain rfl : l = [] := List.eq_nil_of_length_eq_zero h0
    rw [run_convert_bytes_string w 31 9 5 _ _ c Tryd.underlying31 Tryd.underlying5 Tryd.underlying9]
    cases A <;> simp [Conv.bytesToString, loadCells, loadCellsFrom, strU, strOfNums]
    all_goals rfl
  · obtain ⟨b, o, rfl, _, _, hc⟩ := h3 h0
    exact run_convert_bytes_arg (P := Tryd.prog) w 31 5 Tryd.underlying31 Tryd.underlying5 b o l.length c (l.map n8) (by simp) (fun i hi => by rw [hc i (by simpa using hi)]; simp [List.getD, List.getElem?_eq_getElem (show i < l.length by simpa using hi)]) 9 Tryd.underlying9
theorem strU_toList (l : List UInt8) : (strU l).toList = l := by
  have h := Lib.strOfNums_toList (l.map n8)
  have e : Lib.bytesOf (l.map n8) = l := by
    unfold Lib.bytesOf
    rw [List.map_map]
    conv => rhs; rw [← List.map_id l]
    apply List.map_congr_left
    intro x _
    simp [n8]
  exact h.trans e
theorem strU_eq (a b : List UInt8) : ((strU a).toList == (strU b).toList) = decide (a = b) := by
  have e1 : (strU a).toList = a := strU_toList a
  have e2 : (strU b).toList = b := strU_toList b
  rw [e1, e2, Bool.eq_iff_iff]; simp
set_option maxHeartbeats 400000 in
theorem same_any (lo hi lo' hi' : Nat) (v1 v2 : Value) (a b : List UInt8) (w : World) (h1 : Bs lo hi w v1 a) (h2 : Bs lo' hi' w v2 b) : Calls Tryd.prog 12 #[v1, v2] w fun e w' => e = .returned (.bool (decide (a = b))) ∧ w = w' := by
  have c1 := h1.convert
  have c2 := h2.convert
  clear h1 h2
  have hs := strU_eq a b
  go_enter Tryd.func12, Tryd.ntmps12
  go_wp2
  go_ret
  exact ⟨rfl, rfl⟩
theorem same_true (lo hi lo' hi' : Nat) (v1 v2 : Value) (a b : List UInt8) (w : World) (h1 : Bs lo hi w v1 a) (h2 : Bs lo' hi' w v2 b) (hab : a = b) : Calls Tryd.prog 12 #[v1, v2] w fun e w' => e = .returned (.bool true) ∧ w = w' := by
  have h := same_any lo hi lo' hi' v1 v2 a b w h1 h2
  rw [decide_eq_true hab] at h
  exact h
/-- The beginning of a row of the call's own is one. -/
theorem own_cut {w : World} {base : Nat} {A : Option Addr} {m c : Nat} {l : List UInt8} (h : OwnB w base (.slice A m c) l) (n : Nat) (J : Int) (hJ : J = (n : Int)) (hn : n ≤ l.length) :
    ∃ A' c', (∀ W, (Instr.slice 31 (.slice A m c) none (some (.int .i64 J)) none).run Tryd.prog W = .ok (.slice A' n c') W) ∧ OwnB w base (.slice A' n c') (l.take n) := by
  subst hJ
  obtain ⟨h1, h2⟩ := h
  have hlen : (l.take n).length = n := by rw [List.length_take]; omega
  rcases h2 with ⟨e, h0⟩ | ⟨g, cap, cur, e, hb, hg, hnc, hcm, hcs, htake⟩
  · injection e with e1 e2 e3
    subst e1 e2 e3
    obtain rfl : n = 0 := by omega
    refine ⟨none, 0, fun W => by rw [slice_h none 0 0 0 (by omega)]; rfl, ?_⟩
    have : l.take 0 = [] := rfl
    rw [this]
    exact World.ownsRow_nil _ _ _ _
  · injection e with e1 e2 e3
    subst e1 e2 e3
    refine ⟨some ⟨g, 0, none⟩, c, fun W => by rw [slice_h _ _ c n (by omega)]; simp [sliced, Addr.add], ?_⟩
    unfold OwnB
    rw [hlen]
    refine ⟨by simp; omega, .inr ⟨g, c, cur, rfl, hb, hg, by omega, hcm, hcs, ?_⟩⟩
    rw [Nat.mul_one] at htake ⊢
    rw [List.map_take, ← htake, List.take_take, Nat.min_eq_left hn]
end Go.Proofs.YthkccpemgmpadaaDoor

namespace Go.Proofs.YthkccpemgmpadaaDoor
set_option maxRecDepth 100000
open Go.RowKit

theorem ret_st2 {fn : Func} {p u : Tmp} {R : Ending → World → Prop} {a : Act} {w : World} (h : fn.results = #[.cell p 24, .tmp u]) (g : Nat) (s : St) (v : Value)
    (hp : a.tmps.getD p undef = .pointer (some ⟨g, 0, none⟩)) (hu : a.tmps.getD u undef = v) (hg : Blk w g 24 (stC s)) (hd : a.defers = []) (hR : R (.returned (.tuple #[stV s, v])) w) : bodyPost Tryd.prog fn R .ret a w := by
  refine bodyPost_ret (v := .tuple #[stV s, v]) ?_ hd hR
  rw [results_cell_tmp h, hp, hu]
  have hl := run_loadVar_row (P := Tryd.prog) w g 24 24 (stC s) (0, 0) _ hg Tryd.underlying24 rfl size24
  simp [asAddr, Result.andThen, hl]
def zS : St := ⟨0#32, 0#32, 0#32, 0#32⟩
theorem zC_st : zC = stC zS := rfl

/-! ### Of -/
/-- The first 'k' numbers of sixteen octets; zeros behind. -/
def mixS (l : List UInt8) (k : Nat) : St := ⟨if 0 < k then four l else 0#32, if 1 < k then four (l.drop 4) else 0#32, if 2 < k then four (l.drop 8) else 0#32, if 3 < k then four (l.drop 12) else 0#32⟩
theorem mixS_all (l : List UInt8) : mixS l 4 = ofF l := by
  unfold mixS ofF
  simp only [four_take4]
  rfl
theorem mixS_get (l : List UInt8) (k : Nat) (h : k < 4) : (stC (mixS l k))[k]? = some (u32v 0#32) := by
  match k, h with
  | 0, _ => rfl
  | 1, _ => rfl
  | 2, _ => rfl
  | 3, _ => rfl
theorem mixS_set (l : List UInt8) (k : Nat) (h : k < 4) : (stC (mixS l k)).setIfInBounds k (u32v (four (l.drop (4 * k)))) = stC (mixS l (k + 1)) := by
  match k, h with
  | 0, _ => rfl
  | 1, _ => rfl
  | 2, _ => rfl
  | 3, _ => rfl

set_option maxHeartbeats 400000 in
theorem Of_bad (lo : Nat) (v : Value) (l : List UInt8) (w : World) (h : Bs lo w.heap.size w v l) (hl : l.length ≠ 16) :
    Calls Tryd.prog 42 #[v] w fun e w' => e = .returned (.tuple #[stV zS, .int .i64 2]) ∧ Below w.heap.size w w' := by
  obtain ⟨A, c, rfl, _⟩ := h
  have h1 : ¬ (l.length : Int) = 16 := by omega
  have hB : Blk (w.alloc (.cells zC 24)) w.heap.size 24 zC := Blk.new rfl
  have hb : Below w.heap.size w (w.alloc (.cells zC 24)) := bl_alloc (Below.refl _ _) _
  replace hB := hide hB; replace hb := hide hb
  clear hl
  go_enter Tryd.func42, Tryd.ntmps42
  go_wp2_with (first
    | (refine wpList_store_row rfl 24 (.tmp 2) (.tmp 9) rfl w.heap.size zC rfl rfl 24 zC (unhide hB) size24 rfl (stC_one zS) ?_)
    | fail)
  exact ret_st2 rfl w.heap.size zS _ rfl rfl ((unhide hB).row _) rfl ⟨rfl, bl_row (unhide hb) _ (Nat.le_refl _)⟩

set_option maxHeartbeats 1000000 in
theorem Of_good (lo : Nat) (v : Value) (l : List UInt8) (w : World) (h : Bs lo w.heap.size w v l) (hl : l.length = 16) :
    Calls Tryd.prog 42 #[v] w fun e w' => e = .returned (.tuple #[stV (ofF l), .int .i64 0]) ∧ Below w.heap.size w w' := by
  obtain ⟨A, c, rfl⟩ : ∃ A c, v = .slice A 16 c := by obtain ⟨A, c, e, _⟩ := id h; exact ⟨A, c, by rw [e, hl]⟩
  have hB : Blk ((w.alloc (.cells zC 24)).alloc (.cells zC 24)) w.heap.size 24 zC := Blk.alloc (Blk.new rfl) _
  have hM : Blk ((w.alloc (.cells zC 24)).alloc (.cells zC 24)) (w.heap.size + 1) 24 (stC (mixS l 0)) := Blk.new (by simp)
  have hb : Below w.heap.size w ((w.alloc (.cells zC 24)).alloc (.cells zC 24)) := bl_alloc (bl_alloc (Below.refl _ _) _) _
  have hnum := fun (W : World) (hb : Below w.heap.size w W) (k : Nat) (hk : k < 4) =>
    show ∃ A' c', (∀ W, (Instr.slice 31 (.slice A 16 c) (some (.int .i64 (4 * (k : Int)))) none none).run Tryd.prog W = .ok (.slice A' (16 - 4 * k) c') W) ∧ Calls Tryd.prog 61 #[.slice A' (16 - 4 * k) c'] W (fun e w' => e = .returned (u32v (four (l.drop (4 * k)))) ∧ ∃ m, w' = W.drewN m) by
      obtain ⟨A', c', e, hb'⟩ := h.cut_l (4 * k) (4 * (k : Int)) (by omega) (by omega)
      rw [hl] at e hb'
      exact ⟨A', c', e, number_any _ _ _ _ W (hb'.below hb (Nat.le_refl _)) (by rw [List.length_drop]; omega)⟩
  replace hB := hide hB; replace hM := hide hM; replace hb := hide hb; replace hnum := hide hnum
  clear h hl
  go_enter Tryd.func42, Tryd.ntmps42
  go_upto_region 4 with (fail)
  generalize hW : World.alloc (World.alloc w _) _ = W at *
  clear hW
  go_wp2
  go_loopw [10] (fun i wr => ∃ k : Nat, k ≤ 4 ∧ i = .int .i64 k ∧ Hid (Blk wr (w.heap.size + 1) 24 (stC (mixS l k))) ∧ Hid (Blk wr w.heap.size 24 zC) ∧ Hid (Below w.heap.size w wr)) (fun i _ => 4 - (intOf i).toNat)
  case atStart => exact ⟨0, by omega, rfl, hM, hB, hb⟩
  case round =>
    obtain ⟨k, hk, rfl, M, B, b⟩ := hrel
    by_cases hlt : k < 4
    · obtain ⟨A', c', hsl, hcall⟩ := unhide hnum wr (unhide b) k hlt
      have hg := mixS_get l k hlt
      have hst := mixS_set l k hlt
      have cx : wr.cell? ⟨w.heap.size + 1, k, none⟩ = some (u32v 0#32) := by rw [(unhide M).cell]; exact hg
      have fx : wr.frozen? ⟨w.heap.size + 1, k, none⟩ = false := (unhide M).frozen k
      have k1 : (k : Int) < 4 := by omega
      have k0 : (0 : Int) ≤ (k : Int) := by omega
      have i1 : IntKind.i64.wrap (4 * (k : Int)) = 4 * (k : Int) := IntWalk.i64_in _ (by omega)
      generalize four (l.drop (4 * k)) = q at *
      replace hcall := hide hcall; replace hst := hide hst
      clear hg
      go_wp2_with (first
        | (go_at_call 61; refine (unhide hcall).mono ?_; rintro e w1 ⟨rfl, m1, rfl⟩)
        | fail)
      have M1 : Blk ((wr.drewN m1).setCell ⟨w.heap.size + 1, k, none⟩ (u32v q)) (w.heap.size + 1) 24 (stC (mixS l (k + 1))) := by rw [← unhide hst]; exact ((unhide M).drewN m1).set k (u32v q)
      have B1 : Blk ((wr.drewN m1).setCell ⟨w.heap.size + 1, k, none⟩ (u32v q)) w.heap.size 24 zC := ((unhide B).drewN m1).far (by simp) _
      have b1 : Below w.heap.size w ((wr.drewN m1).setCell ⟨w.heap.size + 1, k, none⟩ (u32v q)) := (below_drewN (unhide b) m1).setCell (by simp) _
      go_roundw
      case rel => exact ⟨k + 1, by omega, by go_num, M1, B1, b1⟩
      case measure => simp [intOf]; omega
    · obtain rfl : k = 4 := by omega
      have hs := mixS_all l
      rw [hs] at M
      clear hs
      obtain ⟨S, hS⟩ : ∃ S, S = ofF l := ⟨_, rfl⟩
      rw [← hS] at M
      replace hS := hide hS
      go_wp2_with (first
        | (refine wpList_load_row rfl 24 (.tmp 4) rfl (w.heap.size + 1) rfl 24 (stC S) (0, 0) _ (unhide M) Tryd.underlying24 rfl size24 ?_)
        | (refine wpList_store_row rfl 24 (.tmp 2) (.tmp 21) rfl w.heap.size (stC S) rfl rfl 24 zC (unhide B) size24 rfl (stC_one _) ?_)
        | fail)
      exact ret_st2 rfl w.heap.size S (.int .i64 0) rfl rfl ((unhide B).row _) rfl ⟨by rw [unhide hS], bl_row (unhide b) _ (Nat.le_refl _)⟩
end Go.Proofs.YthkccpemgmpadaaDoor

namespace Go.Proofs.YthkccpemgmpadaaDoor
set_option maxRecDepth 100000
open Go.RowKit

theorem Blk.set4 {w : World} {g : Nat} {t : TypeId} {a b c d x y z u : Value} (h : Blk w g t #[a, b, c, d]) : Blk ((((w.setCell ⟨g, 0, none⟩ x).setCell ⟨g, 1, none⟩ y).setCell ⟨g, 2, none⟩ z).setCell ⟨g, 3, none⟩ u) g t #[x, y, z, u] := by
  simpa using (((h.set 0 x).set 1 y).set 2 z).set 3 u
theorem below_set4 {B g : Nat} {a w : World} {x y z u : Value} (h : Below B a w) (hg : B ≤ g) : Below B a ((((w.setCell ⟨g, 0, none⟩ x).setCell ⟨g, 1, none⟩ y).setCell ⟨g, 2, none⟩ z).setCell ⟨g, 3, none⟩ u) :=
  (((h.setCell hg _).setCell hg _).setCell hg _).setCell hg _
end Go.Proofs.YthkccpemgmpadaaDoor

namespace Go.Proofs.YthkccpemgmpadaaDoor
set_option maxRecDepth 100000
open Go.RowKit

section
attribute [local go_sem] r_xor
set_option maxHeartbeats 1000000 in
theorem takeIn_any (lo : Nat) (s : St) (v : Value) (l : List UInt8) (w : World) (ht : Tab w) (h : Bs lo w.heap.size w v l) (hl : l.length = 8) :
    Calls Tryd.prog 87 #[stV s, v] w fun e w' => e = .returned (stV (inF s l)) ∧ Below w.heap.size w w' := by
  obtain ⟨A, c, rfl⟩ : ∃ A c, v = .slice A 8 c := by obtain ⟨A, c, e, _⟩ := id h; exact ⟨A, c, by rw [e, hl]⟩
  have hB : Blk ((w.alloc (.cells (stC s) 24)).alloc (.cells zC 24)) w.heap.size 24 (stC s) := Blk.alloc (Blk.new rfl) _
  have hZ : Blk ((w.alloc (.cells (stC s) 24)).alloc (.cells zC 24)) (w.heap.size + 1) 24 zC := Blk.new (by simp)
  have hb : Below w.heap.size w ((w.alloc (.cells (stC s) 24)).alloc (.cells zC 24)) := bl_alloc (bl_alloc (Below.refl _ _) _) _
  obtain ⟨A1, c1, s1, b1⟩ := h.cut_l 4 4 rfl (by omega)
  rw [hl] at s1 b1
  replace s1 : ∀ W, (Instr.slice 31 (.slice A 8 c) (some (.int .i64 4)) none none).run Tryd.prog W = .ok (.slice A1 4 c1) W := s1
  replace b1 : Bs lo w.heap.size w (.slice A1 4 c1) (l.drop 4) := b1
  have n0 := fun W' (hb : Below w.heap.size w W') => number_any _ _ _ _ W' (h.below hb (Nat.le_refl _)) (by omega)
  have n1 := fun W' (hb : Below w.heap.size w W') => number_any _ _ _ _ W' (b1.below hb (Nat.le_refl _)) (by rw [List.length_drop]; omega)
  have hp := fun S W' (hb : Below w.heap.size w W') => perm_any S W' (ht.below hb (Nat.le_refl _))
  have hL : inF s l = permF ⟨s.a ^^^ four l, s.b ^^^ four (l.drop 4), s.c, s.d⟩ := by
    unfold inF; rw [four_take4, four_take4]
  obtain ⟨x0, e0⟩ : ∃ x, x = four l := ⟨_, rfl⟩
  obtain ⟨x1, e1⟩ : ∃ x, x = four (l.drop 4) := ⟨_, rfl⟩
  rw [← e0] at n0; rw [← e1] at n1; rw [← e0, ← e1] at hL
  clear h b1 e0 e1 hl
  obtain ⟨a, b, c', d⟩ := s
  replace n0 := hide n0; replace n1 := hide n1; replace hp := hide hp; replace hL := hide hL; replace hB := hide hB; replace hZ := hide hZ; replace hb := hide hb; replace ht := hide ht
  go_enter Tryd.func87, Tryd.ntmps87
  go_upto_region 1 with (fail)
  generalize hW : World.alloc (World.alloc w _) _ = W at *
  clear hW
  have c0 : W.cell? ⟨w.heap.size, 0, none⟩ = some (u32v a) := (unhide hB).cell 0
  have f0 : W.frozen? ⟨w.heap.size, 0, none⟩ = false := (unhide hB).frozen 0
  go_region_law (first
    | (go_simp; go_at_call 61; refine (unhide n0 _ (unhide hb).drew).mono ?_; rintro e w1 ⟨rfl, m1, rfl⟩))
  all_goals
    have B1 : Blk ((W.drewN (1 + m1)).setCell ⟨w.heap.size, 0, none⟩ (.int .u32 (n32 (a ^^^ x0)))) w.heap.size 24 (stC ⟨a ^^^ x0, b, c', d⟩) := ((unhide hB).drewN _).set 0 _
    have Z1 : Blk ((W.drewN (1 + m1)).setCell ⟨w.heap.size, 0, none⟩ (.int .u32 (n32 (a ^^^ x0)))) (w.heap.size + 1) 24 zC := ((unhide hZ).drewN _).far (by simp) _
    have b1 : Below w.heap.size w ((W.drewN (1 + m1)).setCell ⟨w.heap.size, 0, none⟩ (.int .u32 (n32 (a ^^^ x0)))) := (below_drewN (unhide hb) _).setCell (Nat.le_refl _) _
    generalize (W.drewN (1 + m1)).setCell ⟨w.heap.size, 0, none⟩ (.int .u32 (n32 (a ^^^ x0))) = W1 at *
    have c1 : W1.cell? ⟨w.heap.size, 1, none⟩ = some (u32v b) := B1.cell 1
    have f1 : W1.frozen? ⟨w.heap.size, 1, none⟩ = false := B1.frozen 1
    replace B1 := hide B1; replace Z1 := hide Z1; replace b1 := hide b1
    clear c0 f0
    go_upto_region 2 with (fail)
    go_region_law (first
      | (go_simp; go_at_call 61; refine (unhide n1 _ (unhide b1).drew).mono ?_; rintro e w1 ⟨rfl, m2, rfl⟩))
  all_goals
    have B2 : Blk ((W1.drewN (1 + m2)).setCell ⟨w.heap.size, 1, none⟩ (.int .u32 (n32 (b ^^^ x1)))) w.heap.size 24 (stC ⟨a ^^^ x0, b ^^^ x1, c', d⟩) := ((unhide B1).drewN _).set 1 _
    have Z2 : Blk ((W1.drewN (1 + m2)).setCell ⟨w.heap.size, 1, none⟩ (.int .u32 (n32 (b ^^^ x1)))) (w.heap.size + 1) 24 zC := ((unhide Z1).drewN _).far (by simp) _
    have b2 : Below w.heap.size w ((W1.drewN (1 + m2)).setCell ⟨w.heap.size, 1, none⟩ (.int .u32 (n32 (b ^^^ x1)))) := (below_drewN (unhide b1) _).setCell (Nat.le_refl _) _
    generalize (W1.drewN (1 + m2)).setCell ⟨w.heap.size, 1, none⟩ (.int .u32 (n32 (b ^^^ x1))) = W2 at *
    obtain ⟨S, hS⟩ : ∃ S : St, S = ⟨a ^^^ x0, b ^^^ x1, c', d⟩ := ⟨_, rfl⟩
    have hL' := unhide hL
    simp only [] at hL'
    rw [← hS] at B2 hL'
    have hcall := unhide hp S W2 b2
    have l2 := Z2.lt
    have l0 := B2.lt
    replace hL' := hide hL'
    clear hS c1 f1
    replace B2 := hide B2; replace Z2 := hide Z2; replace b2 := hide b2; replace hcall := hide hcall
    go_wp2_with (first
      | (refine wpList_load_row rfl 24 (.tmp 2) rfl w.heap.size rfl 24 (stC S) (0, 0) _ (unhide B2) Tryd.underlying24 rfl size24 ?_)
      | (go_at_call 86; refine (unhide hcall).mono ?_; rintro e w3 ⟨rfl, hb3⟩; have Z3 := Blk.below (unhide Z2) hb3 l2; have b3 := bl_call (unhide b2) hb3; replace Z3 := hide Z3; replace b3 := hide b3)
      | (refine wpList_store_row rfl 24 (.tmp 4) (.tmp 19) rfl (w.heap.size + 1) (stC _) rfl rfl 24 zC (unhide Z3) size24 rfl (stC_one _) ?_)
      | fail)
    exact bodyPost_ret (v := stV _) (results_cell_row Tryd.results87 _ _ _ _ _ (0, 0) _ rfl ((unhide Z3).row _) Tryd.underlying24 rfl size24) rfl ⟨by rw [unhide hL'], bl_row (unhide b3) _ (by omega)⟩
end
end Go.Proofs.YthkccpemgmpadaaDoor

namespace Go.Proofs.YthkccpemgmpadaaDoor
set_option maxRecDepth 100000
open Go.RowKit

set_option maxHeartbeats 400000 in
theorem Absorb_long (lo : Nat) (s : St) (v : Value) (l : List UInt8) (w : World) (h : Bs lo w.heap.size w v l) (hl : 131072 < l.length) :
    Calls Tryd.prog 77 #[stV s, v] w fun e w' => e = .returned (.tuple #[stV zS, .int .i64 3]) ∧ Below w.heap.size w w' := by
  obtain ⟨A, c, rfl, _⟩ := h
  have h1 : (131072 : Int) < (l.length : Int) := by omega
  have hZ : Blk ((w.alloc (.cells (stC s) 24)).alloc (.cells zC 24)) (w.heap.size + 1) 24 zC := Blk.new (by simp)
  have hb : Below w.heap.size w ((w.alloc (.cells (stC s) 24)).alloc (.cells zC 24)) := bl_alloc (bl_alloc (Below.refl _ _) _) _
  replace hZ := hide hZ; replace hb := hide hb
  clear hl
  go_enter Tryd.func77, Tryd.ntmps77
  go_wp2_with (first
    | (refine wpList_store_row rfl 24 (.tmp 4) (.tmp 11) rfl (w.heap.size + 1) zC rfl rfl 24 zC (unhide hZ) size24 rfl (stC_one zS) ?_)
    | fail)
  exact ret_st2 rfl (w.heap.size + 1) zS _ rfl rfl ((unhide hZ).row _) rfl ⟨rfl, bl_row (unhide hb) _ (by omega)⟩

/-- What stands in the last eight octets, once those that are left are copied. -/
theorem pad_cells {l : List UInt8} (hl : l.length < 8) : (splice (List.replicate 8 (Value.int .u8 0)) 0 (l.map u8v)).toArray.setIfInBounds l.length (.int .u8 128) = ((padF l).map u8v).toArray := by
  have e : l.length % 8 = l.length := Nat.mod_eq_of_lt hl
  rw [List.setIfInBounds_toArray]
  congr 1
  unfold splice padF
  simp only [List.take_zero, List.nil_append, List.length_map, Nat.zero_add, List.map_append, List.map_cons, List.map_replicate, e, List.drop_replicate]
  rw [List.set_append_right _ _ (by simp)]
  congr 1
  rw [List.length_map, Nat.sub_self]
  have : 8 - l.length = (7 - l.length) + 1 := by omega
  rw [this, List.replicate_succ]
  rfl
theorem pad_zero {l : List UInt8} (hl : l.length < 8) : (splice (List.replicate 8 (Value.int .u8 0)) 0 (l.map u8v)).toArray[l.length]? = some (.int .u8 0) := by
  unfold splice
  simp only [List.take_zero, List.nil_append, List.length_map, Nat.zero_add, List.drop_replicate]
  rw [List.getElem?_toArray, List.getElem?_append_right (by simp), List.length_map, Nat.sub_self, List.getElem?_replicate, if_pos (by omega)]
theorem absorb_last {s : St} {l : List UInt8} (hl : l.length < 8) : absorbF s l = inF s (padF l) := by
  unfold absorbF
  have : l.length / 8 + 1 = 1 := by omega
  rw [this]; rfl
theorem pad_len8 {l : List UInt8} (hl : l.length < 8) : (padF l).length = 8 := by rw [pad_len]; omega
theorem Bs.of_blk {w : World} {g n : Nat} {t : TypeId} {l : List UInt8} (h : Blk w g t (l.map u8v).toArray) (hn : n = l.length) (h63 : n ≤ 1000000) : Bs 0 w.heap.size w (.slice (some ⟨g, 0, none⟩) n n) l := by
  subst hn
  refine ⟨_, _, rfl, Nat.le_refl _, by omega, fun _ => ⟨g, 0, rfl, Nat.zero_le _, h.lt, fun i hi => ?_⟩⟩
  rw [h.cell]
  simp [hi]

set_option maxHeartbeats 1000000 in
theorem Absorb_good (lo : Nat) (s : St) (v : Value) (l : List UInt8) (w : World) (ht : Tab w) (h : Bs lo w.heap.size w v l) (hl : l.length ≤ 131072) :
    Calls Tryd.prog 77 #[stV s, v] w fun e w' => e = .returned (.tuple #[stV (absorbF s l), .int .i64 0]) ∧ Below w.heap.size w w' := by
  obtain ⟨A, c, rfl⟩ : ∃ A c, v = .slice A l.length c := by obtain ⟨A, c, e, _⟩ := id h; exact ⟨A, c, e⟩
  have hB : Blk ((w.alloc (.cells (stC s) 24)).alloc (.cells zC 24)) w.heap.size 24 (stC s) := Blk.alloc (Blk.new rfl) _
  have hZ : Blk ((w.alloc (.cells (stC s) 24)).alloc (.cells zC 24)) (w.heap.size + 1) 24 zC := Blk.new (by simp)
  have hb : Below w.heap.size w ((w.alloc (.cells (stC s) 24)).alloc (.cells zC 24)) := bl_alloc (bl_alloc (Below.refl _ _) _) _
  have hp := fun S v l' W' (hb : Below w.heap.size w W') (h : Bs lo w.heap.size w v l') (hl : l'.length = 8) => takeIn_any lo S v l' W' (ht.below hb (Nat.le_refl _)) ((h.below hb (Nat.le_refl _)).mono (Nat.le_refl _) hb.size) hl
  have hp2 := fun S v l' W' (hb : Below w.heap.size w W') (h : Bs 0 W'.heap.size W' v l') (hl : l'.length = 8) => takeIn_any 0 S v l' W' (ht.below hb (Nat.le_refl _)) h hl
  have h1 : (l.length : Int) ≤ 131072 := by omega
  replace hB := hide hB; replace hZ := hide hZ; replace hb := hide hb; replace hp := hide hp; replace hp2 := hide hp2; replace h := hide h
  go_enter Tryd.func77, Tryd.ntmps77
  go_upto_region 1 with (fail)
  generalize hW : World.alloc (World.alloc w _) _ = W at *
  clear hW
  go_wp2
  go_loopw [1] (fun v wr => ∃ S l' A c, v = .slice A l'.length c ∧ l'.length ≤ 131072 ∧ Hid (Bs lo w.heap.size w (.slice A l'.length c) l') ∧ Hid (absorbF S l' = absorbF s l) ∧ Hid (Blk wr w.heap.size 24 (stC S)) ∧ Hid (Blk wr (w.heap.size + 1) 24 zC) ∧ Hid (Below w.heap.size w wr)) (fun v _ => (match v with | .slice _ n _ => n | _ => 0))
  case atStart => exact ⟨s, l, A, c, rfl, hl, h, hide rfl, hB, hZ, hb⟩
  case round =>
    obtain ⟨S, l', A', c', rfl, hl', h', ha, B, Z, b⟩ := hrel
    by_cases h8 : 8 ≤ l'.length
    · obtain ⟨A1, c1, s1, b1⟩ := (unhide h').cut_h 8 8 rfl h8
      obtain ⟨A2, c2, s2, b2⟩ := (unhide h').cut_l 8 8 rfl h8
      have hq := fun W' (hb : Below w.heap.size w W') => unhide hp S _ _ W' hb b1 (by rw [List.length_take]; omega)
      have hin : inF S (l'.take 8) = inF S l' := inF_take
      have hab : absorbF (inF S l') (l'.drop 8) = absorbF s l := by rw [← absorb_blocks h8]; exact unhide ha
      have hdl : (l'.drop 8).length = l'.length - 8 := by rw [List.length_drop]
      rw [hin] at hq
      have k8 : (8 : Int) ≤ (l'.length : Int) := by omega
      have l0 := (unhide B).lt
      have l1 := (unhide Z).lt
      have c0 : wr.cell? ⟨w.heap.size, 0, none⟩ = some (u32v S.a) := (unhide B).cell 0
      have c1 : wr.cell? ⟨w.heap.size, 1, none⟩ = some (u32v S.b) := (unhide B).cell 1
      have c2 : wr.cell? ⟨w.heap.size, 2, none⟩ = some (u32v S.c) := (unhide B).cell 2
      have c3 : wr.cell? ⟨w.heap.size, 3, none⟩ = some (u32v S.d) := (unhide B).cell 3
      generalize inF S l' = S' at *
      generalize hl2 : l'.drop 8 = l2 at *
      rw [← hdl] at s2 b2
      have hlt : l2.length < l'.length := by omega
      replace hq := hide hq; replace b2 := hide b2; replace hab := hide hab; replace hlt := hide hlt
      clear hin ha h' b1 hl2 hdl
      go_upto_region 4 with (fail)
      go_region_law (first
        | (go_simp; go_at_call 87; refine (unhide hq _ (unhide b).drew).mono ?_; rintro e w1 ⟨rfl, hb1⟩
           have B1 : Blk w1 w.heap.size 24 (stC S) := Blk.below ((unhide B).drew) hb1 l0
           have Z1 : Blk w1 (w.heap.size + 1) 24 zC := Blk.below ((unhide Z).drew) hb1 l1
           have bb : Below w.heap.size w w1 := bl_call (unhide b).drew hb1
           have d0 : w1.cell? ⟨w.heap.size, 0, none⟩ = some (u32v S.a) := B1.cell 0
           have d1 : w1.cell? ⟨w.heap.size, 1, none⟩ = some (u32v S.b) := B1.cell 1
           have d2 : w1.cell? ⟨w.heap.size, 2, none⟩ = some (u32v S.c) := B1.cell 2
           have d3 : w1.cell? ⟨w.heap.size, 3, none⟩ = some (u32v S.d) := B1.cell 3
           have f0 : w1.frozen? ⟨w.heap.size, 0, none⟩ = false := B1.frozen 0
           have f1 : w1.frozen? ⟨w.heap.size, 1, none⟩ = false := B1.frozen 1
           have f2 : w1.frozen? ⟨w.heap.size, 2, none⟩ = false := B1.frozen 2
           have f3 : w1.frozen? ⟨w.heap.size, 3, none⟩ = false := B1.frozen 3
           replace B1 := hide B1; replace Z1 := hide Z1; replace bb := hide bb))
      have B2 : Blk _ w.heap.size 24 (stC S') := Blk.set4 (x := u32v S'.a) (y := u32v S'.b) (z := u32v S'.c) (u := u32v S'.d) (unhide B1)
      have Z2 : Blk ((((w1.setCell ⟨w.heap.size, 0, none⟩ (u32v S'.a)).setCell ⟨w.heap.size, 1, none⟩ (u32v S'.b)).setCell ⟨w.heap.size, 2, none⟩ (u32v S'.c)).setCell ⟨w.heap.size, 3, none⟩ (u32v S'.d)) (w.heap.size + 1) 24 zC := ((((unhide Z1).far (by simp) _).far (by simp) _).far (by simp) _).far (by simp) _
      have bb2 : Below w.heap.size w _ := below_set4 (x := u32v S'.a) (y := u32v S'.b) (z := u32v S'.c) (u := u32v S'.d) (unhide bb) (Nat.le_refl _)
      replace B2 := hide B2; replace Z2 := hide Z2; replace bb2 := hide bb2
      generalize (((w1.setCell ⟨w.heap.size, 0, none⟩ (u32v S'.a)).setCell ⟨w.heap.size, 1, none⟩ (u32v S'.b)).setCell ⟨w.heap.size, 2, none⟩ (u32v S'.c)).setCell ⟨w.heap.size, 3, none⟩ (u32v S'.d) = w2 at *
      clear c0 c1 c2 c3 d0 d1 d2 d3 f0 f1 f2 f3
      go_wp2
      go_roundw
      case rel => exact ⟨S', l2, _, _, rfl, by have := unhide hlt; omega, b2, hab, B2, Z2, bb2⟩
      case measure => exact unhide hlt
    · have hl8 : l'.length < 8 := by omega
      have hS := absorb_last (s := S) hl8
      have hab : inF S (padF l') = absorbF s l := by rw [← hS]; exact unhide ha
      have hpl := pad_len8 hl8
      have hpc := pad_cells hl8
      have k8 : (l'.length : Int) < 8 := by omega
      have hG : Blk (wr.alloc (.cells (List.replicate 8 (Value.int .u8 0)).toArray 148)) wr.heap.size 148 (List.replicate 8 (Value.int .u8 0)).toArray := Blk.new rfl
      have hb0 : Below w.heap.size w (wr.alloc (.cells (List.replicate 8 (Value.int .u8 0)).toArray 148)) := bl_alloc (unhide b) _
      have hB0 := (unhide B).alloc (.cells (List.replicate 8 (Value.int .u8 0)).toArray 148)
      have hZ0 := (unhide Z).alloc (.cells (List.replicate 8 (Value.int .u8 0)).toArray 148)
      have hsrc : SrcOk (wr.alloc (.cells (List.replicate 8 (Value.int .u8 0)).toArray 148)) A' (l'.map u8v).length (l'.map u8v) := by rw [List.length_map]; exact ((unhide h').below hb0 (Nat.le_refl _)).src.2
      have hm : l'.length = Nat.min l'.length 8 := (Nat.min_eq_left (by omega)).symm
      have hml : (l'.map u8v).length = l'.length * 1 := by simp
      have hfit : 0 + (l'.map u8v).length ≤ (List.replicate 8 (Value.int .u8 0)).length := by simp; omega
      have ho := u8s_one l'
      have hpz := pad_zero hl8
      have hgw : w.heap.size + 1 < wr.heap.size := (unhide Z).lt
      replace hab := hide hab; replace hpc := hide hpc; replace hpl := hide hpl; replace hsrc := hide hsrc; replace hG := hide hG; replace hb0 := hide hb0; replace hB0 := hide hB0; replace hZ0 := hide hZ0; replace hm := hide hm; replace hml := hide hml; replace hfit := hide hfit; replace ho := hide ho; replace hpz := hide hpz
      clear hS ha h8
      go_upto_region 7 with (fail)
      go_wp2_with (first
        | (refine wpList_copyN rfl (.tmp 21) (.tmp 22) 31 31 rfl 5 1 Tryd.underlying31 (by kernel_rfl) (some ⟨wr.heap.size, 0, none⟩) A' 8 8 l'.length c' rfl rfl wr.heap.size 0 (List.replicate 8 (Value.int .u8 0)) 148 (unhide hG) (l'.map u8v) l'.length (unhide hm) (unhide hml) (fun _ => ⟨rfl, unhide hsrc⟩) (unhide hfit) (unhide ho) ?_
           intro w5 hG5 hO5
           have c5 : w5.cell? ⟨wr.heap.size, l'.length, none⟩ = some (.int .u8 0) := ((unhide hG5).cell l'.length).trans (unhide hpz)
           have f5 : w5.frozen? ⟨wr.heap.size, l'.length, none⟩ = false := (unhide hG5).frozen _)
        | fail)
      have hG6 : Blk (w5.setCell ⟨wr.heap.size, l'.length, none⟩ (.int .u8 128)) wr.heap.size 148 ((padF l').map u8v).toArray := by rw [← unhide hpc]; exact (unhide hG5).set l'.length _
      have hB6 := (Blk.only (unhide hB0) hO5 (by omega)).far (p := ⟨wr.heap.size, l'.length, none⟩) (show w.heap.size ≠ wr.heap.size by omega) (.int .u8 128)
      have hZ6 := (Blk.only (unhide hZ0) hO5 (by omega)).far (p := ⟨wr.heap.size, l'.length, none⟩) (show w.heap.size + 1 ≠ wr.heap.size by omega) (.int .u8 128)
      have hb6 : Below w.heap.size w (w5.setCell ⟨wr.heap.size, l'.length, none⟩ (.int .u8 128)) := ((unhide hb0).trans (hO5.below (by omega))).setCell (by simp; omega) _
      generalize w5.setCell ⟨wr.heap.size, l'.length, none⟩ (.int .u8 128) = w6 at *
      have hbs : Bs 0 w6.heap.size w6 (.slice (some ⟨wr.heap.size, 0, none⟩) 8 8) (padF l') := Bs.of_blk hG6 (unhide hpl).symm (by omega)
      have hq := fun W' (hb : Below w.heap.size w W') (hb' : Below w6.heap.size w6 W') => unhide hp2 S _ _ W' hb ((hbs.below hb' (Nat.le_refl _)).mono (Nat.le_refl _) hb'.size) (unhide hpl)
      rw [unhide hab] at hq
      have l0 := hB6.lt
      have l1 := hZ6.lt
      have c0 : w6.cell? ⟨w.heap.size, 0, none⟩ = some (u32v S.a) := hB6.cell 0
      have c1 : w6.cell? ⟨w.heap.size, 1, none⟩ = some (u32v S.b) := hB6.cell 1
      have c2 : w6.cell? ⟨w.heap.size, 2, none⟩ = some (u32v S.c) := hB6.cell 2
      have c3 : w6.cell? ⟨w.heap.size, 3, none⟩ = some (u32v S.d) := hB6.cell 3
      obtain ⟨S', hS'⟩ : ∃ S', S' = absorbF s l := ⟨_, rfl⟩
      rw [← hS'] at hq
      replace hS' := hide hS'
      generalize wr.heap.size = g6 at *
      replace hq := hide hq; replace hZ6 := hide hZ6; replace hb6 := hide hb6
      clear hbs hG6 hB6 c5 f5 hO5 hG5 hsrc hG hb0 hB0 hZ0 hpz hpc hml hm hfit ho hab hpl
      go_region_law (first
        | (go_simp; go_at_call 87; refine (unhide hq _ (unhide hb6).drew (Below.refl _ _).drew).mono ?_; rintro e w7 ⟨rfl, hb7⟩
           have Z7 : Blk w7 (w.heap.size + 1) 24 zC := Blk.below ((unhide hZ6).drew) hb7 l1
           have bb : Below w.heap.size w w7 := bl_call (unhide hb6).drew hb7
           have d0 : w7.cell? ⟨w.heap.size + 1, 0, none⟩ = some (.int .u32 0) := Z7.cell 0
           have d1 : w7.cell? ⟨w.heap.size + 1, 1, none⟩ = some (.int .u32 0) := Z7.cell 1
           have d2 : w7.cell? ⟨w.heap.size + 1, 2, none⟩ = some (.int .u32 0) := Z7.cell 2
           have d3 : w7.cell? ⟨w.heap.size + 1, 3, none⟩ = some (.int .u32 0) := Z7.cell 3
           have f0 : w7.frozen? ⟨w.heap.size + 1, 0, none⟩ = false := Z7.frozen 0
           have f1 : w7.frozen? ⟨w.heap.size + 1, 1, none⟩ = false := Z7.frozen 1
           have f2 : w7.frozen? ⟨w.heap.size + 1, 2, none⟩ = false := Z7.frozen 2
           have f3 : w7.frozen? ⟨w.heap.size + 1, 3, none⟩ = false := Z7.frozen 3
           replace Z7 := hide Z7; replace bb := hide bb))
      all_goals
        have Z8 : Blk _ (w.heap.size + 1) 24 (stC S') := Blk.set4 (x := u32v S'.a) (y := u32v S'.b) (z := u32v S'.c) (u := u32v S'.d) (unhide Z7)
        have bb8 : Below w.heap.size w _ := below_set4 (g := w.heap.size + 1) (x := u32v S'.a) (y := u32v S'.b) (z := u32v S'.c) (u := u32v S'.d) (unhide bb) (by omega)
        replace Z8 := hide Z8; replace bb8 := hide bb8
        go_wp2_with (fail)
        exact ret_st2 rfl (w.heap.size + 1) S' (.int .i64 0) rfl rfl (unhide Z8) rfl ⟨by rw [unhide hS'], unhide bb8⟩
end Go.Proofs.YthkccpemgmpadaaDoor

namespace Go.Proofs.YthkccpemgmpadaaDoor
set_option maxRecDepth 100000
open Go.RowKit

/-- The text, 128, and 'i' zeros. -/
def padI (l : List UInt8) (i : Nat) : List UInt8 := l ++ 128 :: List.replicate i 0
theorem padI_len (l : List UInt8) (i : Nat) : (padI l i).length = l.length + 1 + i := by simp [padI]; omega
theorem padI_all (l : List UInt8) : padI l (7 - l.length % 8) = padF l := rfl
theorem padI_succ (l : List UInt8) (i : Nat) : padI l i ++ [0] = padI l (i + 1) := by
  unfold padI
  rw [List.append_assoc, List.cons_append, ← List.replicate_succ']
theorem padI_zero (l : List UInt8) : l ++ [128] = padI l 0 := rfl
theorem one_src (w : World) (x : UInt8) : SrcOk (w.alloc (.cells #[u8v x] 5)) (some ⟨w.heap.size, 0, none⟩) 1 ([x].map u8v) := fun _ => by
  refine ⟨_, rfl, fun j u hu => ?_⟩
  rw [add_none, (Blk.new (w := w) (t := 5) (cs := #[u8v x]) rfl).cell, Nat.zero_add]
  simpa using hu
theorem one_src0 (w : World) : SrcOk (w.alloc (.cells #[.int .u8 0] 5)) (some ⟨w.heap.size, 0, none⟩) 1 (([0] : List UInt8).map u8v) := one_src w 0
theorem one_src128 (w : World) : SrcOk (w.alloc (.cells #[.int .u8 128] 5)) (some ⟨w.heap.size, 0, none⟩) 1 (([128] : List UInt8).map u8v) := one_src w 128

theorem Agree.setCell {lo hi : Nat} {a w : World} (h : Agree lo hi a w) {p : Addr} (hp : p.block < lo) (u : Value) : Agree lo hi a (w.setCell p u) := fun k h1 h2 => (Below.heap_setCell w p u k (by omega)).trans (h k h1 h2)
theorem own_row_lt {w : World} {base g : Nat} {e : TypeId} {size : Nat} {v : Value} {n : Nat} {xs : List Value} (h : w.ownsRow base e size v n xs) (C : Array Value) (hg : g < base) : (w.setRow g C).ownsRow base e size v n xs := by
  obtain ⟨h1, h2⟩ := h
  refine ⟨h1, ?_⟩
  rcases h2 with h2 | ⟨g', cap, cur, hv, hb, hh, r⟩
  · exact .inl h2
  · exact .inr ⟨g', cap, cur, hv, hb, (setRow_other w g g' C (by omega)).trans hh, r⟩
section
attribute [local go_sem] r_xor
end
end Go.Proofs.YthkccpemgmpadaaDoor

namespace Go.Proofs.YthkccpemgmpadaaDoor
set_option maxRecDepth 100000
open Go.RowKit

/-- How long a slice is. -/
def lenOf : Value → Nat
  | .slice _ n _ => n
  | _ => 0
/-- Permuted 'j' times. -/
def pn : Nat → St → St
  | 0, s => s
  | j + 1, s => permF (pn j s)
theorem pn_perm (j : Nat) (s : St) : pn j (permF s) = permF (pn j s) := by
  induction j with
  | zero => rfl
  | succ j ih => rw [pn, ih]; rfl
theorem sqF_snoc (j : Nat) (s : St) : sqF j s ++ oct (pn j s).a ++ oct (pn j s).b = sqF (j + 1) s := by
  induction j generalizing s with
  | zero => simp [sqF, pn]
  | succ j ih =>
    rw [sqF, sqF, ← ih (permF s), pn_perm]
    simp [pn, List.append_assoc]

set_option maxHeartbeats 400000 in
theorem Squeeze_neg (s : St) (z : Int) (w : World) (hz : z < 0) :
    Calls Tryd.prog 76 #[stV s, .int .i64 z] w fun e w' => e = .returned (.tuple #[.slice none 0 0, .int .i64 1]) ∧ Below w.heap.size w w' := by
  go_enter Tryd.func76, Tryd.ntmps76
  go_wp2
  go_ret2
  exact ⟨rfl, by (repeat (first | with_reducible exact Below.refl _ _ | with_reducible assumption | with_reducible refine Below.drew ?_ | with_reducible refine bl_alloc ?_ _ | with_reducible refine bl_call ?_ (by assumption) | (focus (with_reducible refine Below.setCell ?_ ?_ _; rotate_left; focus (first | omega | (simp <;> omega)))) | fail))⟩
set_option maxHeartbeats 400000 in
theorem Squeeze_long (s : St) (z : Int) (w : World) (hz : 131072 < z) :
    Calls Tryd.prog 76 #[stV s, .int .i64 z] w fun e w' => e = .returned (.tuple #[.slice none 0 0, .int .i64 3]) ∧ Below w.heap.size w w' := by
  go_enter Tryd.func76, Tryd.ntmps76
  go_wp2
  go_ret2
  exact ⟨rfl, by (repeat (first | with_reducible exact Below.refl _ _ | with_reducible assumption | with_reducible refine Below.drew ?_ | with_reducible refine bl_alloc ?_ _ | with_reducible refine bl_call ?_ (by assumption) | (focus (with_reducible refine Below.setCell ?_ ?_ _; rotate_left; focus (first | omega | (simp <;> omega)))) | fail))⟩
set_option maxHeartbeats 1000000 in
theorem Squeeze_good (s : St) (n : Nat) (w : World) (ht : Tab w) (hn : n ≤ 131072) :
    Calls Tryd.prog 76 #[stV s, .int .i64 n] w fun e w' => ∃ A c, e = .returned (.tuple #[.slice A n c, .int .i64 0]) ∧ OwnB w' w.heap.size (.slice A n c) (squeezeF s n) ∧ Below w.heap.size w w' := by
  obtain ⟨i0, hi0, hz0, hz1, hz2⟩ := info_parts info5
  have hB : Blk (w.alloc (.cells (stC s) 24)) w.heap.size 24 (stC (pn 0 s)) := Blk.new rfl
  have hb : Below w.heap.size w (w.alloc (.cells (stC s) 24)) := bl_alloc (Below.refl _ _) _
  have hsz : (w.alloc (.cells (stC s) 24)).heap.size = w.heap.size + 1 := by simp
  have hp := fun S W' (hb : Below w.heap.size w W') => perm_any S W' (ht.below hb (Nat.le_refl _))
  have hn0 : ¬ (n : Int) < 0 := by omega
  have hn1 : ¬ (131072 : Int) < (n : Int) := by omega
  have ho2 := fun x => u8s_one (oct x)
  replace hB := hide hB; replace hb := hide hb; replace hsz := hide hsz; replace hp := hide hp; replace ho2 := hide ho2
  go_enter Tryd.func76, Tryd.ntmps76
  go_upto_region 1 with (fail)
  generalize hW : World.alloc w _ = W at *
  clear hW
  obtain ⟨cs, hcs, hmk⟩ := mk8 (n + 8) (by omega) W
  have i8 : IntKind.i64.wrap ((n : Int) + 8) = ((n + 8 : Nat) : Int) := IntWalk.i64_in _ (by omega)
  have hmk' : (Instr.makeSlice 31 (.int .i64 0) (.int .i64 ((n : Int) + 8))).run Tryd.prog W = .ok (.slice (some ⟨W.heap.size, 0, none⟩) 0 (n + 8)) (W.alloc (.cells cs 5)) := by
    have e : ((n : Int) + 8) = ((n + 8 : Nat) : Int) := by omega
    rw [e]; exact hmk
  have hown : OwnB (W.alloc (.cells cs 5)) (w.heap.size + 1) (.slice (some ⟨W.heap.size, 0, none⟩) 0 (n + 8)) (sqF 0 s) := own_fresh W _ _ 5 1 (n + 8) cs rfl (by rw [unhide hsz]; omega) (by simp only [maxLen]; omega) hcs
  have hb1 : Below w.heap.size w (W.alloc (.cells cs 5)) := bl_alloc (unhide hb) _
  have hB1 : Blk (W.alloc (.cells cs 5)) w.heap.size 24 (stC (pn 0 s)) := Blk.alloc (unhide hB) _
  have hs1 : w.heap.size + 1 ≤ (W.alloc (.cells cs 5)).heap.size := le_alloc (Nat.le_of_eq (unhide hsz).symm)
  replace hown := hide hown; replace hb1 := hide hb1; replace hB1 := hide hB1; replace hs1 := hide hs1; replace hcs := hide hcs
  clear hmk hB hb hsz
  go_upto_region 6 with (fail)
  generalize W.heap.size = gA at *
  generalize W.alloc (.cells cs 5) = W1 at *
  clear hmk' 
  obtain ⟨N, hN⟩ : ∃ N, N = (n + 7) / 8 := ⟨_, rfl⟩
  have hN1 : N ≤ 16384 := by omega
  replace hN := hide hN
  go_loopw [6] (fun v wr => ∃ j m A c, v = .slice A m c ∧ Hid (m = 8 * j) ∧ j ≤ N ∧ Hid (OwnB wr (w.heap.size + 1) (.slice A m c) (sqF j s)) ∧ Hid (Blk wr w.heap.size 24 (stC (pn j s))) ∧ Hid (Below w.heap.size w wr) ∧ Hid (w.heap.size + 1 ≤ wr.heap.size)) (fun v _ => n - lenOf v)
  case atStart => exact ⟨0, 0, _, _, rfl, hide rfl, Nat.zero_le _, hown, hB1, hb1, hs1⟩
  case round =>
    obtain ⟨j, m, A, c, rfl, hm, hj, o, B, b, hs⟩ := hrel
    by_cases hlt : j < N
    · have hmn : m < n := by have := unhide hm; have := unhide hN; omega
      have k1 : (m : Int) < (n : Int) := by omega
      have hl : (sqF j s).length = m := by rw [sqF_len, unhide hm]; omega
      have hsn := sqF_snoc j s
      have hpn : permF (pn j s) = pn (j + 1) s := rfl
      have hm1 : m + 8 = 8 * (j + 1) := by have := unhide hm; omega
      have hmm : n - (m + 8) < n - m := by omega
      generalize sqF j s = q at *
      obtain ⟨q2, hqe⟩ : ∃ q2, q2 = sqF (j + 1) s := ⟨_, rfl⟩
      rw [← hqe] at hsn
      obtain ⟨S', hSe⟩ : ∃ S', S' = pn (j + 1) s := ⟨_, rfl⟩
      rw [← hSe] at hpn
      generalize pn j s = S at *
      replace hqe := hide hqe; replace hSe := hide hSe
      have c0 : wr.cell? ⟨w.heap.size, 0, none⟩ = some (u32v S.a) := (unhide B).cell 0
      obtain ⟨xa, hxa⟩ : ∃ x, x = S.a := ⟨_, rfl⟩
      obtain ⟨xb, hxb⟩ : ∃ x, x = S.b := ⟨_, rfl⟩
      rw [← hxa] at c0
      have hq1 : (q ++ oct xa).length = m + 4 := by rw [List.length_append, hl, oct_len]
      have hq2 : (q ++ oct xa ++ oct xb).length = m + 8 := by rw [List.length_append, hq1, oct_len]
      rw [← hxa, ← hxb] at hsn
      have hmb : m ≤ 131072 := by omega
      replace hl := hide hl; replace hsn := hide hsn; replace hpn := hide hpn; replace hm1 := hide hm1; replace hmm := hide hmm; replace hq1 := hide hq1; replace hq2 := hide hq2; replace hxa := hide hxa; replace hxb := hide hxb; replace hmb := hide hmb
      clear hmn
      have tok1 : True := trivial
      have q4 : (w.heap.size < w.heap.size + 1) := by omega
      go_wp2_with (first
        | (go_at_call 60
           have _t := tok1
           refine (tell_any (w.heap.size + 1) _ q xa wr (unhide o) (unhide hs) (by have y := unhide hl; have z := unhide hmb; omega)).mono ?_
           rintro e w1 ⟨v1, rfl, o1, hb1⟩
           obtain ⟨A1, c1, rfl⟩ : ∃ A c, v1 = .slice A (m + 4) c := by obtain ⟨A, c, e⟩ := o1.form; exact ⟨A, c, by rw [e, unhide hq1]⟩
           have B1 : Blk w1 w.heap.size 24 (stC S) := Blk.below (unhide B) hb1 q4
           have b1 : Below w.heap.size w w1 := (unhide b).trans (hb1.mono (Nat.le_of_lt q4))
           have hs1 : w.heap.size + 1 ≤ w1.heap.size := Nat.le_trans (unhide hs) hb1.size
           have d1 : w1.cell? ⟨w.heap.size, 1, none⟩ = some (u32v xb) := (B1.cell 1).trans (by rw [unhide hxb]; rfl)
           replace o1 := hide o1; replace B1 := hide B1; replace b1 := hide b1; replace hs1 := hide hs1
           clear tok1 _t hb1)
        | (go_at_call 60
           refine (tell_any (w.heap.size + 1) _ (q ++ oct xa) xb w1 (unhide o1) (unhide hs1) (by have y := unhide hq1; have z := unhide hmb; omega)).mono ?_
           rintro e w4 ⟨v4, rfl, o4, hb4⟩
           obtain ⟨A4, c4, rfl⟩ : ∃ A c, v4 = .slice A (m + 8) c := by obtain ⟨A, c, e⟩ := o4.form; exact ⟨A, c, by rw [e, unhide hq2]⟩
           have B4 : Blk w4 w.heap.size 24 (stC S) := Blk.below (unhide B1) hb4 q4
           have b4 : Below w.heap.size w w4 := (unhide b1).trans (hb4.mono (Nat.le_of_lt q4))
           have hs4 : w.heap.size + 1 ≤ w4.heap.size := Nat.le_trans (unhide hs1) hb4.size
           have hcall := unhide hp S w4 b4
           have l4 := B4.lt
           rw [unhide hpn] at hcall
           replace o4 := hide o4; replace B4 := hide B4; replace b4 := hide b4; replace hs4 := hide hs4; replace hcall := hide hcall
           clear hb4)
        | (refine wpList_load_row rfl 24 (.tmp 2) rfl w.heap.size rfl 24 (stC S) (0, 0) _ (unhide B4) Tryd.underlying24 rfl size24 ?_)
        | (go_at_call 86; refine (unhide hcall).mono ?_; rintro e wd ⟨rfl, hb5⟩
           have B5 := Blk.below (unhide B4) hb5 l4
           have b5 := bl_call (unhide b4) hb5
           have o5 := own_below (unhide o4) hb5 (Nat.le_refl _)
           have hs5 := Nat.le_trans (unhide hs4) hb5.size
           replace B5 := hide B5; replace b5 := hide b5; replace o5 := hide o5; replace hs5 := hide hs5
           clear hb5)
        | (refine wpList_store_row rfl 24 (.tmp 2) (.tmp 27) rfl w.heap.size (stC S') rfl rfl 24 (stC S) (unhide B5) size24 rfl (stC_one _) ?_)
        | fail)
      have B6 : Blk (wd.setRow w.heap.size (stC S')) w.heap.size 24 (stC S') := (unhide B5).row (stC S')
      have b6 := bl_row (g := w.heap.size) (unhide b5) (stC S') (Nat.le_refl _)
      have o6 := own_row_lt (g := w.heap.size) (unhide o5) (stC S') (by omega)
      have hs6 : w.heap.size + 1 ≤ (wd.setRow w.heap.size (stC S')).heap.size := by have := unhide hs5; simp [World.setRow]; omega
      go_frame
      go_roundw
      case rel =>
        refine ⟨j + 1, m + 8, A4, c4, rfl, hm1, by omega, hide ?_, hide ?_, hide b6, hide hs6⟩
        · rw [← unhide hqe, ← unhide hsn]
          exact o6
        · rw [← unhide hSe]
          exact B6
      case measure => exact unhide hmm
    · obtain rfl : j = N := by omega
      have hmn : n ≤ m := by have := unhide hm; have := unhide hN; omega
      have k1 : ¬ (m : Int) < (n : Int) := by omega
      have hl : (sqF j s).length = m := by rw [sqF_len, unhide hm]; omega
      have hsq : (sqF j s).take n = squeezeF s n := by unfold squeezeF; rw [← unhide hN]
      have o' : OwnB wr (w.heap.size + 1) (.slice A m c) (sqF j s) := unhide o
      obtain ⟨A', c', hsl, hb'⟩ := own_cut o' n (n : Int) rfl (by omega)
      rw [hsq] at hb'
      replace hb' := hide hb'
      clear hsq hl o' hmn
      go_wp2_with (fail)
      go_ret2
      exact ⟨A', c', rfl, ownsRow_mono (unhide hb') (by omega), unhide b⟩

end Go.Proofs.YthkccpemgmpadaaDoor

namespace Go.Proofs.YthkccpemgmpadaaDoor
set_option maxRecDepth 100000
open Go.RowKit

set_option maxHeartbeats 400000 in
theorem bclone0 (lo : Nat) (v : Value) (l : List UInt8) (w : World) (h : Bs lo w.heap.size w v l) (hL : l.length ≤ 1000000) :
    Calls Tryd.prog 21 #[v] w fun e w' => ∃ v', e = .returned v' ∧ w'.ownsRow w.heap.size 5 1 v' l.length (l.map u8v) ∧ Below w.heap.size w w' := by
  obtain ⟨i0, hi0, hz0, hz1, hz2⟩ := info_parts info5
  have h' := h
  obtain ⟨A, c, rfl, h1, h2, h3⟩ := h'
  have hs := h.src
  clear h h3
  have q22 : ∀ (w : World) (a : Option Addr) (n c : Nat), (binOp .eql 31 (.slice a n c) (.slice none 0 0)).run Tryd.prog w = .ok (.bool a.isNone) w := fun w a n c => Lib.run_eql_slice_nil w _ _ a n c 0 0 Tryd.underlying31
  obtain ⟨xs, hxs⟩ : ∃ xs, xs = l.map u8v := ⟨_, rfl⟩
  have hxl : xs.length = l.length := by rw [hxs]; simp
  have hx1 : ∀ u ∈ xs, u.oneCell' = true := by rw [hxs]; exact u8s_one l
  rw [← hxs] at hs ⊢
  clear hxs
  generalize l.length = n at *
  have HS := hs.2
  have HX := Lib.hid hxl; have HX1 := Lib.hid hx1; clear hs hxl hx1
  have hb1 : 0 + n ≤ maxLen := by simp only [maxLen]; omega
  have hb2 : (0 + n) * 1 ≤ 140737488355328 := by omega
  rcases A with _ | ad
  · have hn0 : n = 0 := by
      rcases Nat.eq_zero_or_pos n with h0 | h0
      · exact h0
      · obtain ⟨ad, e, _⟩ := HS h0; cases e
    subst hn0
    obtain rfl : xs = [] := List.eq_nil_of_length_eq_zero HX.out
    go_enter Tryd.func21, Tryd.ntmps21
    go_wp2
    go_ret
    exact ⟨_, rfl, World.ownsRow_nil _ _ _ _, Below.refl _ _⟩
  · have hz : w.heap.size ≤ (w.alloc (.cells #[] 5)).heap.size := by simp
    have HZ := Lib.hid hz; clear hz
    go_enter Tryd.func21, Tryd.ntmps21
    go_wp2_with (first
      | (at_builtin
         refine wpList_app _ rfl (.tmp 5) (.tmp 6) 31 rfl w.heap.size 5 i0 _ 1 1 Tryd.underlying31 hi0 hz0 hz1 hz2 rfl (Nat.succ_pos _) _ 0 [] rfl (World.ownsRow_lit w #[] 0 (Nat.le_refl _) (Nat.zero_le _) rfl) (some ad) n c xs rfl (HX.out.trans (Nat.mul_one _).symm) (HS.below ((Below.refl _ _).alloc (Nat.le_refl _) _)) HX1.out hb1 hb2 HZ.out ?_
         intro v' w1 hown hg))
    go_ret
    refine ⟨_, rfl, by simpa using hown, ?_⟩
    refine bl_grown ((Below.refl _ _).alloc (Nat.le_refl _) _) hg ?_
    intro k hk
    simp [Act.eval, Value.ownBlock] at hk
    omega

theorem bclone (lo : Nat) (v : Value) (l : List UInt8) (w : World) (h : Bs lo w.heap.size w v l) (hL : l.length ≤ 1000000) :
    Calls Tryd.prog 21 #[v] w fun e w' => ∃ A' c', e = .returned (.slice A' l.length c') ∧ w'.ownsRow w.heap.size 5 1 (.slice A' l.length c') l.length (l.map u8v) ∧ Below w.heap.size w w' :=
  (bclone0 lo v l w h hL).mono fun e w' ⟨v', he, ho, hb⟩ => by
    obtain ⟨A', c', rfl⟩ := ownsRow_form ho
    exact ⟨A', c', he, ho, hb⟩

set_option maxHeartbeats 1000000 in
theorem grow_any (n : Nat) (w : World) (h0 : 0 < n) (hn : n ≤ 1000000) :
    Calls Tryd.prog 27 #[.slice none 0 0, .int .i64 n] w fun e w' => ∃ A c, e = .returned (.slice A 0 c) ∧ w'.ownsRow w.heap.size 5 1 (.slice A 0 c) 0 [] ∧ Below w.heap.size w w' := by
  obtain ⟨i0, hi0, hz0, hz1, hz2⟩ := info_parts info5
  have hrun := fun W => Lib.run_append_nil_zeros (P := Tryd.prog) W 31 3 31 5 i0 _ .i64 .i64 Tryd.underlying31 Tryd.underlying3 hi0 hz0 n h0 (by rw [hz1]; omega) (by omega) (by rw [hz2]; omega)
  have hge := grownCap_ge w n 0 5
  have hle := grownCap_le_maxLen w n 0 5 (by simp [maxLen]; omega)
  have y0 : (0 : Int) < (n : Int) := by omega
  have y1 : (0 : Int) ≤ (n : Int) := by omega
  replace hrun := hide hrun
  go_enter Tryd.func27, Tryd.ntmps27
  go_wp2_with (first
    | (at_builtin
       refine Lib.wpList_append_run _ rfl (.tmp 20) (.tmp 21) 31 3 rfl _ _ rfl rfl _ _ (unhide hrun _) ?_)
    | fail)
  go_ret
  refine ⟨_, _, rfl, own_drew (own_fresh _ _ _ 5 1 _ _ rfl (Nat.le_refl _) hle ?_), by (repeat (first | with_reducible exact Below.refl _ _ | with_reducible assumption | with_reducible refine Below.drew ?_ | with_reducible refine bl_alloc ?_ _ | with_reducible refine bl_call ?_ (by assumption) | (focus (with_reducible refine Below.setCell ?_ ?_ _; rotate_left; focus (first | omega | (simp <;> omega)))) | fail))⟩
  simp [Builtin.zeroCells]
  omega
/-- The cells of a slice of texts. -/
def Lists (lo : Nat) (w : World) (g : Nat) (Ls : List (List UInt8)) : Prop :=
  ∀ k (hk : k < Ls.length), ∃ A c, w.cell? ⟨g, k, none⟩ = some (.slice A Ls[k].length c) ∧ Bs lo w.heap.size w (.slice A Ls[k].length c) Ls[k]

theorem take_flat {Ls : List (List UInt8)} {k : Nat} (hk : k < Ls.length) : (Ls.take (k + 1)).flatten = (Ls.take k).flatten ++ Ls[k] := by
  have h : Ls.take (k + 1) = Ls.take k ++ [Ls[k]] := by
    rw [List.take_add_one, List.getElem?_eq_getElem hk]; rfl
  rw [h, List.flatten_append, List.flatten_singleton]
/-- How many there are in the first lists. -/
def upto (Ls : List (List UInt8)) (k : Nat) : Nat := (Ls.take k).flatten.length
theorem upto_succ {Ls : List (List UInt8)} {k : Nat} (hk : k < Ls.length) : upto Ls (k + 1) = upto Ls k + Ls[k].length := by
  unfold upto; rw [take_flat hk, List.length_append]
/-- All of the first lists. -/
def cat (Ls : List (List UInt8)) (k : Nat) : List UInt8 := (Ls.take k).flatten
theorem cat_succ {Ls : List (List UInt8)} {k : Nat} (hk : k < Ls.length) : cat Ls (k + 1) = cat Ls k ++ Ls[k] := take_flat hk
theorem upto_cat (Ls : List (List UInt8)) (k : Nat) : (cat Ls k).length = upto Ls k := rfl
theorem flat_le (Ls : List (List UInt8)) (k : Nat) : upto Ls k ≤ upto Ls Ls.length := by
  unfold upto
  rw [List.take_length]
  have h : Ls.flatten = (Ls.take k).flatten ++ (Ls.drop k).flatten := by rw [← List.flatten_append, List.take_append_drop]
  rw [h]; simp

set_option maxHeartbeats 2000000 in
theorem concat_any (lo g : Nat) (Ls : List (List UInt8)) (w : World) (h : Lists lo w g Ls) (hg : g < w.heap.size) (hn : Ls.length ≤ 1000) (h0 : 0 < upto Ls Ls.length) (hL : upto Ls Ls.length ≤ 1000000) :
    Calls Tryd.prog 17 #[.slice (some ⟨g, 0, none⟩) Ls.length Ls.length] w fun e w' => ∃ A c, e = .returned (.slice A (upto Ls Ls.length) c) ∧ w'.ownsRow w.heap.size 5 1 (.slice A (upto Ls Ls.length) c) (upto Ls Ls.length) ((cat Ls Ls.length).map u8v) ∧ Below w.heap.size w w' := by
  obtain ⟨i0, hi0, hz0, hz1, hz2⟩ := info_parts info5
  obtain ⟨n, hn'⟩ : ∃ n, n = Ls.length := ⟨_, rfl⟩
  have hfl := flat_le Ls
  have hgrow := fun W => grow_any (upto Ls Ls.length) W h0 hL
  rw [← hn'] at hfl hgrow hL h0 ⊢
  replace h := hide h; replace hn' := hide hn'; replace hfl := hide hfl; replace hgrow := hide hgrow
  have hn2 : n ≤ 1000 := by rw [unhide hn']; exact hn
  clear hn
  go_enter Tryd.func17, Tryd.ntmps17
  go_wp2_with fail
  go_loopw [3, 11] (fun s3 s11 wr => ∃ k : Nat, k ≤ n ∧ s11 = .int .i64 k ∧ s3 = .int .i64 (upto Ls k : Nat) ∧ w = wr) (fun _ i _ => n - (intOf i).toNat)
  case atStart => exact ⟨0, by omega, rfl, rfl, rfl⟩
  case round =>
    obtain ⟨k, hk, rfl, rfl, rfl⟩ := hrel
    by_cases hlt : k < n
    · have hlt' : k < Ls.length := by rw [← unhide hn']; exact hlt
      obtain ⟨A, c, hc, _⟩ := unhide h k hlt'
      have ha : upto Ls (k + 1) = upto Ls k + Ls[k].length := upto_succ hlt'
      have hb := unhide hfl (k + 1)
      rw [ha] at hb
      generalize ha1 : upto Ls k = a at *
      generalize Ls[k].length = b at *
      replace ha := hide ha
      have w1 : (0 : Int) ≤ (a : Int) + (b : Int) := by omega
      have w2 : (a : Int) + (b : Int) ≤ 1000000 := by omega
      go_wp2_with fail
      go_roundw
      case rel => exact ⟨k + 1, by omega, by go_num, by rw [unhide ha]; go_num, by simp⟩
      case measure => simp [intOf]; omega
    · obtain rfl : k = n := by omega
      have hgz : Hid (g < w.heap.size) := hg
      go_wp2_with (go_at_call 27; refine (unhide hgrow _).mono ?_; rintro e w1 ⟨A1, c1, rfl, hown, hb1⟩)
      replace hown := hide hown; replace hb1 := hide hb1
      go_loopw [6, 27] (fun s6 s27 wx => ∃ (j : Nat) (A2 : Option Addr) (c2 : Nat), j ≤ k ∧ s27 = .int .i64 j ∧ s6 = .slice A2 (upto Ls j) c2 ∧ Hid (wx.ownsRow w.heap.size 5 1 (.slice A2 (upto Ls j) c2) (upto Ls j) ((cat Ls j).map u8v)) ∧ Hid (Below w.heap.size w wx)) (fun _ i _ => k - (intOf i).toNat)
      case atStart => exact ⟨0, A1, c1, by omega, rfl, rfl, hide (unhide hown), hb1⟩
      case round =>
        obtain ⟨j, A2, c2, hj, rfl, rfl, o2, b2⟩ := hrel
        by_cases hlt2 : j < k
        · have hlt' : j < Ls.length := by rw [← unhide hn']; exact hlt2
          obtain ⟨A, c, hc, hx⟩ := unhide h j hlt'
          have ha : cat Ls (j + 1) = cat Ls j ++ Ls[j] := cat_succ hlt'
          have ha' : upto Ls (j + 1) = upto Ls j + Ls[j].length := upto_succ hlt'
          have hb := unhide hfl (j + 1)
          rw [ha'] at hb
          have hsrc := SrcOk.below hx.src.2 (unhide b2)
          have hc' := ((unhide b2).cell (p := ⟨g, j, none⟩) hg).trans hc
          have hgx : g < wr.heap.size := Nat.lt_of_lt_of_le hg (unhide b2).size
          have hnl : (Ls[j].map u8v).length = Ls[j].length * 1 := by simp
          have hno := u8s_one Ls[j]
          have hsz := (unhide b2).size
          generalize Ls[j] = N at *
          generalize upto Ls j = m at *
          have u1 : m + N.length ≤ maxLen := by simp only [maxLen]; omega
          have u2 : (m + N.length) * 1 ≤ 140737488355328 := by omega
          replace ha := hide ha; replace hsrc := hide hsrc; replace hnl := hide hnl; replace hno := hide hno; replace u1 := hide u1; replace u2 := hide u2; replace hb := hide hb
          replace ha' := hide ha'
          clear hc hx
          go_wp2_with (first
            | (at_builtin
               refine wpList_app _ rfl (.tmp 31) (.tmp 32) 31 rfl w.heap.size 5 i0 _ 1 1 Tryd.underlying31 hi0 hz0 hz1 hz2 rfl (Nat.succ_pos _) _ m ((cat Ls j).map u8v) rfl (unhide o2) A N.length c (N.map u8v) rfl (unhide hnl) (unhide hsrc) (unhide hno) (unhide u1) (unhide u2) hsz ?_
               intro v' w2 hown2 hg2
               obtain ⟨A3, c3, rfl⟩ := ownsRow_form hown2))
          have hal : (cat Ls j).map u8v ++ N.map u8v = (cat Ls (j + 1)).map u8v := by rw [unhide ha, List.map_append]
          rw [hal, ← unhide ha'] at hown2
          go_roundw
          case rel => exact ⟨j + 1, A3, c3, by omega, by go_num, by rw [unhide ha'], hide hown2, hide (bl_grown (unhide b2) hg2 (own_base (unhide o2)))⟩
          case measure => simp [intOf]; omega
        · obtain rfl : j = k := by omega
          go_wp2_with fail
          go_ret
          exact ⟨A2, c2, rfl, unhide o2, unhide b2⟩
end Go.Proofs.YthkccpemgmpadaaDoor

namespace Go.Proofs.YthkccpemgmpadaaDoor
set_option maxRecDepth 100000
open Go.RowKit

/-! ### numbers of 64 bits as the model has them -/
def n64 (x : Nx) : Int := (x.toNat : Int)
abbrev u64v (x : Nx) : Value := .int .u64 (n64 x)
theorem n64_lit (n : Nat) (h : n < 18446744073709551616) : (n : Int) = n64 (BitVec.ofNat 64 n) := by
  unfold n64
  rw [BitVec.toNat_ofNat, Nat.mod_eq_of_lt (by omega)]
theorem n64_inj {x y : Nx} (h : n64 x = n64 y) : x = y := by
  unfold n64 at h
  exact BitVec.eq_of_toNat_eq (by omega)
section
variable (x y : Nx) (c : UInt8)
theorem ofInt_nx : BitVec.ofInt IntKind.u64.bits (n64 x) = x := by
  show BitVec.ofInt 64 (x.toNat : Int) = x
  rw [BitVec.ofInt_natCast, BitVec.ofNat_toNat, BitVec.setWidth_eq]
theorem wrap_nx : IntKind.u64.wrap ((x.toNat : Nat) : Int) = n64 x := by
  unfold n64
  have := x.isLt
  rw [IntKind.wrap_u64]
  omega
theorem q_or : bits .or .u64 (n64 x) (n64 y) = n64 (x ||| y) := by
  show IntKind.u64.wrap _ = _
  rw [ofInt_nx, ofInt_nx]
  exact wrap_nx (x ||| y)
theorem q_add : (n64 x + n64 y) % (18446744073709551616 : Int) = n64 (x + y) := by
  unfold n64
  rw [BitVec.toNat_add]
  omega
theorem q_add1 : (n64 x + (1 : Int)) % (18446744073709551616 : Int) = n64 (x + 1#64) := q_add x 1#64
theorem q_mul : (n64 x * n64 y) % (18446744073709551616 : Int) = n64 (x * y) := by
  unfold n64
  rw [BitVec.toNat_mul, ← Int.natCast_mul]
  generalize x.toNat * y.toNat = z
  omega
theorem q_mul256 : ((256 : Int) * n64 y) % (18446744073709551616 : Int) = n64 (256#64 * y) := q_mul 256#64 y
theorem q_shr8 : n64 x / (256 : Int) = n64 (x >>> 8) := by
  unfold n64
  rw [BitVec.toNat_ushiftRight, Nat.shiftRight_eq_div_pow]
  omega
theorem q_conv : n8 c % (18446744073709551616 : Int) = n64 (oc8 c) := by
  have := c.toNat_lt
  unfold n8 n64
  simp [oc8]
  omega
theorem q_low : n64 x % (256 : Int) = n8 (⟨x.setWidth 8⟩ : UInt8) := by
  unfold n8 n64
  show _ = ((x.setWidth 8).toNat : Int)
  rw [BitVec.toNat_setWidth]
  omega
theorem q_tm : (n64 x).tmod (256 : Int) = n8 (⟨x.setWidth 8⟩ : UInt8) := by
  rw [Int.tmod_eq_emod_of_nonneg (by unfold n64; omega)]; exact q_low x
theorem q_td : (n64 x).tdiv (256 : Int) = n64 (x >>> 8) := by
  rw [Int.tdiv_eq_ediv_of_nonneg (by unfold n64; omega)]; exact q_shr8 x
end

section
attribute [local go_sem] q_shr8 q_low
set_option maxHeartbeats 1000000 in
theorem octets_any (n : Nx) (w : World) : Calls Tryd.prog 40 #[u64v n] w fun e w' => ∃ v, e = .returned v ∧ OwnB w' w.heap.size v (eight n) ∧ Below w.heap.size w w' := by
  obtain ⟨i0, hi0, hz0, hz1, hz2⟩ := info_parts info5
  obtain ⟨cs, hcs, hmk⟩ := show ∃ cs : Array Value, cs.size = 8 * 1 ∧ (Instr.makeSlice 31 (.int .i64 0) (.int .i64 8)).run Tryd.prog w = .ok (.slice (some ⟨w.heap.size, 0, none⟩) 0 8) (w.alloc (.cells cs 5)) from mk8 8 (by omega) w
  have hown : OwnB (w.alloc (.cells cs 5)) w.heap.size (.slice (some ⟨w.heap.size, 0, none⟩) 0 8) (eightK n 0) := own_fresh w _ _ 5 1 8 cs rfl (Nat.le_refl _) (by simp [maxLen]) hcs
  have hb : Below w.heap.size w (w.alloc (.cells cs 5)) := bl_alloc (Below.refl _ _) _
  have ho := fun x => u8s_one [x]
  have hz := shrK_zero n
  replace hown := hide hown; replace hb := hide hb; replace hcs := hide hcs; replace ho := hide ho; replace hz := hide hz
  go_enter Tryd.func40, Tryd.ntmps40
  go_upto_region 2 with (fail)
  generalize hW1 : World.alloc w _ = W1 at *
  clear hW1 hmk
  go_wp2
  go_loopw [0, 3, 5] (fun s v i wr => ∃ k : Nat, k ≤ 8 ∧ s = u64v (shrK n k) ∧ i = .int .i64 k ∧ (∃ A c, v = .slice A k c) ∧ Hid (OwnB wr w.heap.size v (eightK n k)) ∧ Hid (Below w.heap.size w wr)) (fun _ _ i _ => 8 - (intOf i).toNat)
  case atStart => exact ⟨0, by omega, by rw [unhide hz], rfl, ⟨_, _, rfl⟩, hown, hb⟩
  case round =>
    obtain ⟨k, hk, rfl, rfl, ⟨A, c, rfl⟩, o, b⟩ := hrel
    by_cases hlt : k < 8
    · have k1 : (k : Int) < 8 := by omega
      have hl := eightK_len n k
      have o' : wr.ownsRow w.heap.size 5 1 (.slice A k c) k ((eightK n k).map u8v) := by have := unhide o; unfold OwnB at this; rw [hl] at this; exact this
      have hs := shrK_succ n k
      have hn : eightK n k ++ [(⟨(shrK n k).setWidth 8⟩ : UInt8)] = eightK n (k + 1) := rfl
      have hl1 := eightK_len n (k + 1)
      have b3 : k + 1 ≤ maxLen := by simp only [maxLen]; omega
      have b4 : (k + 1) * 1 ≤ 140737488355328 := by omega
      have hsz := (unhide b).size
      generalize shrK n k = q at *
      replace o' := hide o'; replace hs := hide hs; replace hn := hide hn; replace hl1 := hide hl1; replace b3 := hide b3; replace b4 := hide b4; replace hsz := hide hsz
      clear o hl
      go_wp2_with (first
        | (at_builtin
           simp only [q_low]
           refine wpList_app _ rfl (.tmp 7) (.tmp 10) 31 rfl w.heap.size 5 i0 _ 1 1 Tryd.underlying31 hi0 hz0 hz1 hz2 rfl (Nat.succ_pos _) _ k ((eightK n k).map u8v) rfl ((unhide o').alloc _) (some ⟨wr.heap.size, 0, none⟩) 1 1 (([(⟨q.setWidth 8⟩ : UInt8)] : List UInt8).map u8v) rfl rfl (one_src wr _) (unhide ho _) (unhide b3) (unhide b4) (le_alloc (unhide hsz)) ?_
           intro v4 w4 hown4 hg4
           have hb4 : Below w.heap.size w w4 := (unhide b).trans (bl_app (unhide hsz) (unhide o') hg4)
           obtain ⟨A4, c4, rfl⟩ := ownsRow_form hown4
           rw [← List.map_append, unhide hn] at hown4
           clear hg4
           replace hown4 := hide hown4; replace hb4 := hide hb4)
        | fail)
      go_roundw
      case rel => exact ⟨k + 1, by omega, by rw [unhide hs], by go_num, ⟨_, _, rfl⟩, by unfold OwnB; rw [unhide hl1]; exact hown4, hb4⟩
      case measure => simp [intOf]; omega
    · obtain rfl : k = 8 := by omega
      have he := eightK_all n
      replace he := hide he
      go_wp2
      go_ret
      exact ⟨_, rfl, by rw [← unhide he]; exact unhide o, unhide b⟩
end
end Go.Proofs.YthkccpemgmpadaaDoor

namespace Go.Proofs.YthkccpemgmpadaaDoor
set_option maxRecDepth 100000
open Go.RowKit

theorem q_wrap (x : Nx) : IntKind.u64.wrap (n64 x) = n64 x := wrap_nx x
theorem q_shl (x : Nx) (k : Nat) : IntKind.u64.wrap (n64 x * 2 ^ k) = n64 (x <<< k) := by
  rw [IntKind.wrap_u64]
  unfold n64
  rw [BitVec.toNat_shiftLeft, Nat.shiftLeft_eq]
  have : ((x.toNat : Int) * 2 ^ k) = ((x.toNat * 2 ^ k : Nat) : Int) := by rw [Int.natCast_mul, Int.natCast_pow]; rfl
  rw [this]
  omega
theorem q_put (p : Nx) (c : UInt8) (k : Nat) : bits .or .u64 (n64 p) (IntKind.u64.wrap (IntKind.u64.wrap (n8 c) * 2 ^ k)) = n64 (p ||| oc8 c <<< k) := by
  have h : IntKind.u64.wrap (n8 c) = n64 (oc8 c) := by rw [IntKind.wrap_u64]; exact q_conv c
  rw [h, q_shl, q_or]

section
attribute [local go_sem] q_tm q_td q_low q_conv q_or
set_option maxHeartbeats 400000 in
theorem number8_any (lo hi : Nat) (v : Value) (l : List UInt8) (w : World) (h : Bs lo hi w v l) (hl : l.length = 8) : Calls Tryd.prog 43 #[v] w fun e w' => e = .returned (u64v (of8 l)) ∧ w = w' := by
  obtain ⟨A, c, rfl, h1, h2, h3⟩ := h
  obtain ⟨b, off, rfl, hb, hb', hc⟩ := h3 (by omega)
  have hz : numK l 0 = 0#64 := rfl
  have he := numK_all l
  have hs : ∀ k, numK l (k + 1) = numK l k ||| oc8 (l.getD k 0) <<< (8 * k) := fun _ => rfl
  have hx : ∀ k, k < 8 → w.cell? ⟨b, off + k, none⟩ = some (u8v (l.getD k 0)) := fun k hk => by rw [hc k (by omega)]; simp [List.getD_eq_getElem?_getD, show k < l.length by omega]
  replace hx := hide hx; replace hs := hide hs; replace he := hide he; replace hz := hide hz
  clear hc h3
  rw [hl] at h1 ⊢
  clear hl
  go_enter Tryd.func43, Tryd.ntmps43
  go_wp2
  go_loopw [3, 4, 5, 8] (fun s _ _ i wr => ∃ k : Nat, k ≤ 8 ∧ s = u64v (numK l k) ∧ i = .int .i64 k ∧ w = wr) (fun _ _ _ i _ => 8 - (intOf i).toNat)
  case atStart => exact ⟨0, by omega, by rw [unhide hz]; rfl, rfl, rfl⟩
  case round =>
    obtain ⟨k, hk, rfl, rfl, rfl⟩ := hrel
    by_cases hlt : k < 8
    · have k1 : (k : Int) < 8 := by omega
      have hxk := unhide hx k hlt
      have hsk := unhide hs k
      generalize l.getD k 0 = q at *
      generalize numK l k = p at *
      replace hsk := hide hsk
      go_wp2_with (fail)
      go_roundw
      case rel => exact ⟨k + 1, by omega, by rw [unhide hsk, q_put], by go_num, trivial⟩
      case measure => simp [intOf]; omega
    · obtain rfl : k = 8 := by omega
      go_wp2
      go_ret
      exact ⟨by simp [unhide he], rfl⟩

end
end Go.Proofs.YthkccpemgmpadaaDoor

namespace Go.Proofs.YthkccpemgmpadaaDoor
set_option maxRecDepth 100000
open Go.RowKit

theorem Bs.to {lo : Nat} {w w' : World} {v : Value} {l : List UInt8} (h : Bs lo w.heap.size w v l) (hb : Below w.heap.size w w') : Bs lo w'.heap.size w' v l := (h.below hb (Nat.le_refl _)).mono (Nat.le_refl _) hb.size
theorem Bs.form {lo hi : Nat} {w : World} {v : Value} {l : List UInt8} (h : Bs lo hi w v l) : ∃ A c, v = .slice A l.length c := by obtain ⟨A, c, e, _⟩ := h; exact ⟨A, c, e⟩
theorem Bs.of_own0 {base : Nat} {w : World} {v : Value} {l : List UInt8} (h : OwnB w base v l) : Bs 0 w.heap.size w v l := (Bs.of_own h).mono (Nat.zero_le _) (Nat.le_refl _)

/-- Two texts, one behind the other. -/
theorem concat2 (v1 v2 : Value) (l1 l2 : List UInt8) (W : World) (h1 : Bs 0 W.heap.size W v1 l1) (h2 : Bs 0 W.heap.size W v2 l2) (h0 : 0 < (l1 ++ l2).length) (hL : (l1 ++ l2).length ≤ 1000000) :
    Calls Tryd.prog 17 #[.slice (some ⟨W.heap.size, 0, none⟩) 2 2] (W.alloc (.cells #[v1, v2] 31)) fun e w' => ∃ A c, e = .returned (.slice A (l1 ++ l2).length c) ∧ OwnB w' W.heap.size (.slice A (l1 ++ l2).length c) (l1 ++ l2) ∧ Below W.heap.size W w' := by
  have hB : Blk (W.alloc (.cells #[v1, v2] 31)) W.heap.size 31 #[v1, v2] := Blk.new rfl
  have hb : Below W.heap.size W (W.alloc (.cells #[v1, v2] 31)) := bl_alloc (Below.refl _ _) _
  obtain ⟨A1, c1, rfl⟩ := h1.form
  obtain ⟨A2, c2, rfl⟩ := h2.form
  have hLs : Lists 0 (W.alloc (.cells #[.slice A1 l1.length c1, .slice A2 l2.length c2] 31)) W.heap.size [l1, l2] := by
    intro k hk
    match k, hk with
    | 0, _ => exact ⟨A1, c1, hB.cell 0, h1.to hb⟩
    | 1, _ => exact ⟨A2, c2, hB.cell 1, h2.to hb⟩
  have e1 : cat [l1, l2] 2 = l1 ++ l2 := by simp [cat]
  have e2 : upto [l1, l2] 2 = (l1 ++ l2).length := by rw [← upto_cat, e1]
  have h := concat_any 0 W.heap.size [l1, l2] _ hLs (by simp) (by simp) (by show 0 < upto [l1, l2] 2; omega) (by show upto [l1, l2] 2 ≤ _; omega)
  have e3 : [l1, l2].length = 2 := rfl
  rw [e3, e2, e1] at h
  refine h.mono ?_
  rintro e w' ⟨A, c, rfl, ho, hb'⟩
  exact ⟨A, c, rfl, ownsRow_mono ho hb.size, bl_call hb hb'⟩

set_option maxHeartbeats 1000000 in
theorem behind_any (s : St) (vt va : Value) (t a : List UInt8) (w : World) (ht : Tab w) (h1 : Bs 0 w.heap.size w va a) (h2 : Bs 0 w.heap.size w vt t) (h0 : 0 < a.length) (hL : (a ++ t).length ≤ 131072) :
    Calls Tryd.prog 59 #[stV s, vt, va] w fun e w' => e = .returned (.tuple #[stV (absorbF s (a ++ t)), .int .i64 0]) ∧ Below w.heap.size w w' := by
  have hB : Blk ((w.alloc (.cells (stC s) 24)).alloc (.cells zC 24)) w.heap.size 24 (stC s) := Blk.alloc (Blk.new rfl) _
  have hZ : Blk ((w.alloc (.cells (stC s) 24)).alloc (.cells zC 24)) (w.heap.size + 1) 24 zC := Blk.new (by simp)
  have hb : Below w.heap.size w ((w.alloc (.cells (stC s) 24)).alloc (.cells zC 24)) := bl_alloc (bl_alloc (Below.refl _ _) _) _
  have hc := fun W (hb : Below w.heap.size w W) => concat2 va vt a t W (h1.to hb) (h2.to hb) (by rw [List.length_append]; omega) (by omega)
  have hq := fun v W (hb : Below w.heap.size w W) (h : Bs 0 W.heap.size W v (a ++ t)) => Absorb_good 0 s v _ W (ht.below hb (Nat.le_refl _)) h hL
  obtain ⟨A1, c1, rfl⟩ := h1.form
  obtain ⟨A2, c2, rfl⟩ := h2.form
  obtain ⟨S', hS'⟩ : ∃ S', S' = absorbF s (a ++ t) := ⟨_, rfl⟩
  rw [← hS']
  rw [← hS'] at hq
  generalize a ++ t = l at *
  replace hB := hide hB; replace hZ := hide hZ; replace hb := hide hb; replace hc := hide hc; replace hq := hide hq; replace hS' := hide hS'
  clear h1 h2 h0 hL
  go_enter Tryd.func59, Tryd.ntmps59
  go_upto_region 1 with (fail)
  generalize hW : World.alloc (World.alloc w _) _ = W at *
  clear hW
  have l0 := (unhide hB).lt
  have l1 := (unhide hZ).lt
  have c0 : W.cell? ⟨w.heap.size, 0, none⟩ = some (u32v s.a) := (unhide hB).cell 0
  have c1' : W.cell? ⟨w.heap.size, 1, none⟩ = some (u32v s.b) := (unhide hB).cell 1
  have c2' : W.cell? ⟨w.heap.size, 2, none⟩ = some (u32v s.c) := (unhide hB).cell 2
  have c3 : W.cell? ⟨w.heap.size, 3, none⟩ = some (u32v s.d) := (unhide hB).cell 3
  go_region_law (first
    | (go_simp; go_at_call 17; refine (unhide hc _ (unhide hb).drew).mono ?_; rintro e w5 ⟨A5, c5, rfl, o5, hb5⟩
       have B5 : Blk w5 w.heap.size 24 (stC s) := Blk.below ((unhide hB).drew) hb5 l0
       have Z5 : Blk w5 (w.heap.size + 1) 24 zC := Blk.below ((unhide hZ).drew) hb5 l1
       have b5 : Below w.heap.size w w5 := bl_call (unhide hb).drew hb5
       have p0 : w5.cell? ⟨w.heap.size, 0, none⟩ = some (u32v s.a) := B5.cell 0
       have p1 : w5.cell? ⟨w.heap.size, 1, none⟩ = some (u32v s.b) := B5.cell 1
       have p2 : w5.cell? ⟨w.heap.size, 2, none⟩ = some (u32v s.c) := B5.cell 2
       have p3 : w5.cell? ⟨w.heap.size, 3, none⟩ = some (u32v s.d) := B5.cell 3
       have l5 := Z5.lt
       have x5 := Bs.of_own0 o5
       replace B5 := hide B5; replace Z5 := hide Z5; replace b5 := hide b5; replace x5 := hide x5
       clear o5 hb5)
    | (go_simp; go_at_call 77; refine (unhide hq _ _ (unhide b5) (unhide x5)).mono ?_; rintro e w7 ⟨rfl, hb7⟩
       have Z7 : Blk w7 (w.heap.size + 1) 24 zC := Blk.below (unhide Z5) hb7 l5
       have bb : Below w.heap.size w w7 := bl_call (unhide b5) hb7
       have d0 : w7.cell? ⟨w.heap.size + 1, 0, none⟩ = some (.int .u32 0) := Z7.cell 0
       have d1 : w7.cell? ⟨w.heap.size + 1, 1, none⟩ = some (.int .u32 0) := Z7.cell 1
       have d2 : w7.cell? ⟨w.heap.size + 1, 2, none⟩ = some (.int .u32 0) := Z7.cell 2
       have d3 : w7.cell? ⟨w.heap.size + 1, 3, none⟩ = some (.int .u32 0) := Z7.cell 3
       have f0 : w7.frozen? ⟨w.heap.size + 1, 0, none⟩ = false := Z7.frozen 0
       have f1 : w7.frozen? ⟨w.heap.size + 1, 1, none⟩ = false := Z7.frozen 1
       have f2 : w7.frozen? ⟨w.heap.size + 1, 2, none⟩ = false := Z7.frozen 2
       have f3 : w7.frozen? ⟨w.heap.size + 1, 3, none⟩ = false := Z7.frozen 3
       replace Z7 := hide Z7; replace bb := hide bb))
  all_goals
    have Z8 : Blk _ (w.heap.size + 1) 24 (stC S') := Blk.set4 (x := u32v S'.a) (y := u32v S'.b) (z := u32v S'.c) (u := u32v S'.d) (unhide Z7)
    have bb8 : Below w.heap.size w _ := below_set4 (g := w.heap.size + 1) (x := u32v S'.a) (y := u32v S'.b) (z := u32v S'.c) (u := u32v S'.d) (unhide bb) (by omega)
    replace Z8 := hide Z8; replace bb8 := hide bb8
    go_wp2_with (fail)
    exact ret_st2 rfl (w.heap.size + 1) S' (.int .i64 0) rfl rfl (unhide Z8) rfl ⟨by rw [unhide hS'], unhide bb8⟩
end Go.Proofs.YthkccpemgmpadaaDoor

namespace Go.Proofs.YthkccpemgmpadaaDoor
set_option maxRecDepth 100000
open Go.RowKit

/-- An append as one step of a region that draws its order. -/
theorem step_app {P : Program} {ops : Array Oper} {o : Oper} {a : Act} {w : World} {K : Act → World → Prop} {Q : Exit → Act → World → Prop} {E : Prop} (hgd : o.guard = none) (s x : Operand) (t : TypeId)
    (ho : o.op = .call { callee := .builtin .append, args := #[s, x], argTypes := #[t, t] })
    (base : Nat) (e : TypeId) (i : TypeInfo) (z : Value) (size bytes : Nat) (ht : P.underlying t = some (.slice e)) (hi : P.info? e = some i) (hz : i.zero = some z)
    (hsize : i.size = size) (hby : i.bytes = bytes) (hzs : z.cells.size = size) (hsz : 0 < size)
    (v : Value) (n : Nat) (xs : List Value) (hs : a.eval s = v) (hown : w.ownsRow base e size v n xs)
    (A : Option Addr) (m c : Nat) (news : List Value) (hx : a.eval x = .slice A m c) (hl : news.length = m * size) (hr : SrcOk w A m news) (h1 : ∀ u ∈ news, u.oneCell' = true)
    (h63 : n + m ≤ maxLen) (hbytes : (n + m) * bytes ≤ 140737488355328) (hbase : base ≤ w.heap.size)
    (h : ∀ v' w', w'.ownsRow base e size v' (n + m) (xs ++ news) → w.grownBy w' v.ownBlock → K (a.put o.dst v') w') :
    if Region.wanted o (yielded ops a.tmps) = true then Oper.wp P o a w K Q else E := by
  have hw : Region.wanted o (yielded ops a.tmps) = true := by simp [Region.wanted, hgd]
  rw [if_pos hw]
  exact wp_app w s x t ho base e i z size bytes ht hi hz hsize hby hzs hsz v n xs hs hown A m c news hx hl hr h1 h63 hbytes hbase h

theorem Blk.call {V w' : World} {g : Nat} {t : TypeId} {cs : Array Value} (h : Blk V g t cs) (hb : Below V.heap.size V w') : Blk w' g t cs := h.below hb h.lt
theorem one_row {w : World} {g : Nat} {x : UInt8} (h : Blk w g 5 #[u8v x]) : SrcOk w (some ⟨g, 0, none⟩) 1 ([x].map u8v) := fun _ => by
  refine ⟨_, rfl, fun j u hu => ?_⟩
  rw [add_none, h.cell, Nat.zero_add]
  simpa using hu
theorem sz_alloc {w : World} {b : Nat} (h : b ≤ w.heap.size) (o : Obj) : b ≤ (w.alloc o).heap.size := by simp; omega
theorem Bs.nil0 (w : World) : Bs 0 w.heap.size w (.slice none 0 0) [] := ⟨_, 0, rfl, Nat.le_refl _, by omega, fun h => absurd h (by simp)⟩

/-- Blocks that are known whole, rows of the call's own, and readings. -/
structure Fx (w0 W : World) (L : List (Nat × TypeId × Array Value)) (R : List (Nat × Value × List UInt8)) (Z : List (Value × List UInt8)) : Prop where
  bl : Below w0.heap.size w0 W
  blk : ∀ p ∈ L, Blk W p.1 p.2.1 p.2.2
  row : ∀ p ∈ R, OwnB W p.1 p.2.1 p.2.2 ∧ p.1 ≤ W.heap.size
  bs : ∀ p ∈ Z, Bs 0 W.heap.size W p.1 p.2
section
variable {w0 W w' : World} {L : List (Nat × TypeId × Array Value)} {R : List (Nat × Value × List UInt8)} {Z : List (Value × List UInt8)}
theorem Fx.nil (w : World) : Fx w w [] [] [] := ⟨Below.refl _ _, fun _ hp => (nomatch hp), fun _ hp => (nomatch hp), fun _ hp => (nomatch hp)⟩
theorem Fx.call (h : Fx w0 W L R Z) (hb : Below W.heap.size W w') : Fx w0 w' L R Z :=
  ⟨bl_call h.bl hb, fun p hp => (h.blk p hp).call hb, fun p hp => ⟨own_below (h.row p hp).1 hb (Nat.le_refl _), Nat.le_trans (h.row p hp).2 hb.size⟩, fun p hp => (h.bs p hp).to hb⟩
theorem Fx.alloc (h : Fx w0 W L R Z) (o : Obj) : Fx w0 (W.alloc o) L R Z := h.call ((Below.refl _ _).alloc (Nat.le_refl _) o)
theorem Fx.drew (h : Fx w0 W L R Z) : Fx w0 W.drew L R Z := h.call (Below.drew (Below.refl _ _))
theorem Fx.drewN (h : Fx w0 W L R Z) (n : Nat) : Fx w0 (W.drewN n) L R Z := h.call (below_drewN (Below.refl _ _) n)
theorem Fx.addB (h : Fx w0 W L R Z) {g : Nat} {t : TypeId} {cs : Array Value} (hk : Blk W g t cs) : Fx w0 W (L ++ [(g, t, cs)]) R Z :=
  ⟨h.bl, fun p hp => (List.mem_append.1 hp).elim (fun hp => h.blk p hp) (fun hp => by rw [List.mem_singleton.1 hp]; exact hk), h.row, h.bs⟩
/-- A new block. -/
theorem Fx.newB (h : Fx w0 W L R Z) (g : Nat) (hg : g = W.heap.size) (cs : Array Value) (t : TypeId) : Fx w0 (W.alloc (.cells cs t)) (L ++ [(g, t, cs)]) R Z := (h.alloc _).addB (Blk.new hg)
theorem Fx.addR (h : Fx w0 W L R Z) {b : Nat} {v : Value} {l : List UInt8} (hk : OwnB W b v l) (hb : b ≤ W.heap.size) : Fx w0 W L (R ++ [(b, v, l)]) Z :=
  ⟨h.bl, h.blk, fun p hp => (List.mem_append.1 hp).elim (fun hp => h.row p hp) (fun hp => by rw [List.mem_singleton.1 hp]; exact ⟨hk, hb⟩), h.bs⟩
theorem Fx.addZ (h : Fx w0 W L R Z) {v : Value} {l : List UInt8} (hk : Bs 0 W.heap.size W v l) : Fx w0 W L R (Z ++ [(v, l)]) :=
  ⟨h.bl, h.blk, h.row, fun p hp => (List.mem_append.1 hp).elim (fun hp => h.bs p hp) (fun hp => by rw [List.mem_singleton.1 hp]; exact hk)⟩
theorem Fx.get (h : Fx w0 W L R Z) (i : Nat) {g : Nat} {t : TypeId} {cs : Array Value} (e : L[i]? = some (g, t, cs)) : Blk W g t cs := h.blk _ (List.mem_of_getElem? e)
theorem Fx.own (h : Fx w0 W L R Z) (i : Nat) {b : Nat} {v : Value} {l : List UInt8} (e : R[i]? = some (b, v, l)) : OwnB W b v l := (h.row _ (List.mem_of_getElem? e)).1
theorem Fx.rd (h : Fx w0 W L R Z) (i : Nat) {v : Value} {l : List UInt8} (e : Z[i]? = some (v, l)) : Bs 0 W.heap.size W v l := h.bs _ (List.mem_of_getElem? e)
/-- Only some of it. -/
theorem Fx.sub (h : Fx w0 W L R Z) {L' : List (Nat × TypeId × Array Value)} {R' : List (Nat × Value × List UInt8)} {Z' : List (Value × List UInt8)} (h1 : ∀ p ∈ L', p ∈ L) (h2 : ∀ p ∈ R', p ∈ R) (h3 : ∀ p ∈ Z', p ∈ Z) : Fx w0 W L' R' Z' :=
  ⟨h.bl, fun p hp => h.blk p (h1 p hp), fun p hp => h.row p (h2 p hp), fun p hp => h.bs p (h3 p hp)⟩
/-- What turns lies from 'B' on: blocks below stay. -/
theorem Fx.upon (h : Fx w0 W L [] []) {B : Nat} (hb : Below B W w') (hB : w0.heap.size ≤ B) (hL : ∀ p ∈ L, p.1 < B) : Fx w0 w' L [] [] :=
  ⟨h.bl.trans (hb.mono hB), fun p hp => (h.blk p hp).below hb (hL p hp), fun _ hp => (nomatch hp), fun _ hp => (nomatch hp)⟩
end

set_option maxHeartbeats 1000000 in
theorem Tag_good (s : St) (n : Nx) (v : Value) (t : List UInt8) (w : World) (ht : Tab w) (h : Bs 0 w.heap.size w v t) (hk : t.length ≤ 65536) :
    Calls Tryd.prog 39 #[stV s, u64v n, v] w fun e w' => e = .returned (.tuple #[stV (tagF s n t), .int .i64 0]) ∧ Below w.heap.size w w' := by
  obtain ⟨i0, hi0, hz0, hz1, hz2⟩ := info_parts info5
  have X0 : Fx w ((w.alloc (.cells (stC s) 24)).alloc (.cells zC 24)) [(w.heap.size, 24, stC s), (w.heap.size + 1, 24, zC)] [] [] := ((Fx.nil w).newB w.heap.size rfl (stC s) 24).newB (w.heap.size + 1) (by simp) zC 24
  have hk1 : ¬ (65536 : Int) < (t.length : Int) := by omega
  have hl8 := eight_len n
  have hq := fun va W (hb : Below w.heap.size w W) (h' : Bs 0 W.heap.size W va (eight n ++ [2])) => behind_any s v va t (eight n ++ [2]) W (ht.below hb (Nat.le_refl _)) h' (h.to hb) (by simp) (by simp [hl8]; omega)
  have hF : tagF s n t = absorbF s (eight n ++ [2] ++ t) := by rw [List.append_assoc]; rfl
  rw [← hF] at hq
  have hl9 : (eight n ++ [2]).length = 8 + 1 := by rw [List.length_append, hl8]; rfl
  have ho2 := u8s_one [2]
  have b3 : 8 + 1 ≤ maxLen := by simp only [maxLen]; omega
  have b4 : (8 + 1) * 1 ≤ 140737488355328 := by omega
  generalize tagF s n t = S' at *
  obtain ⟨A, c, rfl⟩ := h.form
  generalize t.length = m at *
  replace X0 := hide X0; replace hq := hide hq; replace hl9 := hide hl9; replace hl8 := hide hl8; replace ho2 := hide ho2; replace b3 := hide b3; replace b4 := hide b4
  clear h hF
  go_enter Tryd.func39, Tryd.ntmps39
  go_upto_region 3 with (fail)
  generalize hW : World.alloc (World.alloc w _) _ = W at *
  clear hW
  have l0 := ((unhide X0).get 0 rfl).lt
  have l1 := ((unhide X0).get 1 rfl).lt
  have c00 : W.cell? ⟨w.heap.size, 0, none⟩ = some (u32v s.a) := ((unhide X0).get 0 rfl).cell 0
  have c01 : W.cell? ⟨w.heap.size, 1, none⟩ = some (u32v s.b) := ((unhide X0).get 0 rfl).cell 1
  have c02 : W.cell? ⟨w.heap.size, 2, none⟩ = some (u32v s.c) := ((unhide X0).get 0 rfl).cell 2
  have c03 : W.cell? ⟨w.heap.size, 3, none⟩ = some (u32v s.d) := ((unhide X0).get 0 rfl).cell 3
  go_region_law (first
    | (go_simp; go_at_call 40; refine (octets_any n _).mono ?_; rintro e w5 ⟨v5, rfl, o5, hb5⟩
       obtain ⟨A5, c5, rfl⟩ : ∃ A c, v5 = .slice A 8 c := by obtain ⟨A, c, e⟩ := o5.form; exact ⟨A, c, by rw [e, unhide hl8]⟩
       have o5' : w5.ownsRow (w.heap.size + 2) 5 1 (.slice A5 8 c5) 8 ((eight n).map u8v) := by
         have := ownsRow_mono (base' := w.heap.size + 2) o5 (by first | exact Nat.succ_le_of_lt l1 | exact sz_alloc (Nat.succ_le_of_lt l1) _)
         unfold OwnB at this
         rw [unhide hl8] at this
         exact this
       (first | (have R5 : Blk w5 W.heap.size 5 #[u8v 2] := Blk.call (show Blk (World.alloc W.drew (.cells #[u8v 2] 5)) W.heap.size 5 _ from Blk.new rfl) hb5; replace R5 := hide R5) | skip)
       have X5 : Fx w w5 [(w.heap.size, 24, stC s), (w.heap.size + 1, 24, zC)] [] [] := Fx.call (by repeat (first | with_reducible exact unhide X0 | with_reducible refine Fx.drew ?_ | with_reducible refine Fx.alloc ?_ _)) hb5
       have l50 := (X5.get 0 rfl).lt
       have l51 := (X5.get 1 rfl).lt
       have c50 : w5.cell? ⟨w.heap.size, 0, none⟩ = some (u32v s.a) := (X5.get 0 rfl).cell 0
       have c51 : w5.cell? ⟨w.heap.size, 1, none⟩ = some (u32v s.b) := (X5.get 0 rfl).cell 1
       have c52 : w5.cell? ⟨w.heap.size, 2, none⟩ = some (u32v s.c) := (X5.get 0 rfl).cell 2
       have c53 : w5.cell? ⟨w.heap.size, 3, none⟩ = some (u32v s.d) := (X5.get 0 rfl).cell 3
       replace X5 := hide X5; replace o5' := hide o5'
       clear o5 hb5)
    | (refine step_app rfl (.tmp 15) (.tmp 16) 31 rfl (w.heap.size + 2) 5 i0 _ 1 1 Tryd.underlying31 hi0 hz0 hz1 hz2 rfl (Nat.succ_pos _) _ 8 ((eight n).map u8v) rfl (by first | exact unhide o5' | exact World.ownsRow.alloc (unhide o5') _) _ 1 1 (([2] : List UInt8).map u8v) rfl rfl (by first | exact one_src w5 2 | exact one_row (unhide R5)) (unhide ho2) (unhide b3) (unhide b4) (by first | exact Nat.succ_le_of_lt l51 | exact sz_alloc (Nat.succ_le_of_lt l51) _) ?_
       intro v6 w6 o6 hg6
       have X6 : Fx w w6 [(w.heap.size, 24, stC s), (w.heap.size + 1, 24, zC)] [] [] := Fx.upon (by repeat (first | with_reducible exact unhide X5 | with_reducible refine Fx.drew ?_ | with_reducible refine Fx.alloc ?_ _)) ((Below.refl (w.heap.size + 2) _).grown hg6 (by first | exact Nat.succ_le_of_lt l51 | exact sz_alloc (Nat.succ_le_of_lt l51) _) (own_base (unhide o5'))) (by omega) (by simp)
       have y6 : Bs 0 w6.heap.size w6 v6 (eight n ++ [2]) := Bs.of_own0 (own_app o6 (by rw [unhide hl9]))
       obtain ⟨A6, c6, rfl⟩ : ∃ A c, v6 = .slice A (8 + 1) c := by obtain ⟨A, c, e⟩ := y6.form; exact ⟨A, c, by rw [e, unhide hl9]⟩
       have c60 : w6.cell? ⟨w.heap.size, 0, none⟩ = some (u32v s.a) := (X6.get 0 rfl).cell 0
       have c61 : w6.cell? ⟨w.heap.size, 1, none⟩ = some (u32v s.b) := (X6.get 0 rfl).cell 1
       have c62 : w6.cell? ⟨w.heap.size, 2, none⟩ = some (u32v s.c) := (X6.get 0 rfl).cell 2
       have c63 : w6.cell? ⟨w.heap.size, 3, none⟩ = some (u32v s.d) := (X6.get 0 rfl).cell 3
       replace X6 := hide X6; replace y6 := hide y6
       clear o6 hg6)
    | (go_simp; go_at_call 59; refine (unhide hq _ _ (Fx.bl (by repeat (first | with_reducible exact unhide X6 | with_reducible refine Fx.drew ?_ | with_reducible refine Fx.alloc ?_ _))) (unhide y6)).mono ?_; rintro e w7 ⟨rfl, hb7⟩
       have X7 : Fx w w7 [(w.heap.size, 24, stC s), (w.heap.size + 1, 24, zC)] [] [] := Fx.call (by repeat (first | with_reducible exact unhide X6 | with_reducible refine Fx.drew ?_ | with_reducible refine Fx.alloc ?_ _)) hb7
       have d0 : w7.cell? ⟨w.heap.size + 1, 0, none⟩ = some (.int .u32 0) := (X7.get 1 rfl).cell 0
       have d1 : w7.cell? ⟨w.heap.size + 1, 1, none⟩ = some (.int .u32 0) := (X7.get 1 rfl).cell 1
       have d2 : w7.cell? ⟨w.heap.size + 1, 2, none⟩ = some (.int .u32 0) := (X7.get 1 rfl).cell 2
       have d3 : w7.cell? ⟨w.heap.size + 1, 3, none⟩ = some (.int .u32 0) := (X7.get 1 rfl).cell 3
       have f0 : w7.frozen? ⟨w.heap.size + 1, 0, none⟩ = false := (X7.get 1 rfl).frozen 0
       have f1 : w7.frozen? ⟨w.heap.size + 1, 1, none⟩ = false := (X7.get 1 rfl).frozen 1
       have f2 : w7.frozen? ⟨w.heap.size + 1, 2, none⟩ = false := (X7.get 1 rfl).frozen 2
       have f3 : w7.frozen? ⟨w.heap.size + 1, 3, none⟩ = false := (X7.get 1 rfl).frozen 3
       have Z7 := X7.get 1 rfl
       have bb := X7.bl
       replace Z7 := hide Z7; replace bb := hide bb
       clear X7))
  all_goals
    have Z8 : Blk _ (w.heap.size + 1) 24 (stC S') := Blk.set4 (x := u32v S'.a) (y := u32v S'.b) (z := u32v S'.c) (u := u32v S'.d) (unhide Z7)
    have bb8 : Below w.heap.size w _ := below_set4 (g := w.heap.size + 1) (x := u32v S'.a) (y := u32v S'.b) (z := u32v S'.c) (u := u32v S'.d) (unhide bb) (by omega)
    replace Z8 := hide Z8; replace bb8 := hide bb8
    go_wp2_with (fail)
    exact ret_st2 rfl (w.heap.size + 1) S' (.int .i64 0) rfl rfl (unhide Z8) rfl ⟨rfl, unhide bb8⟩
end Go.Proofs.YthkccpemgmpadaaDoor
