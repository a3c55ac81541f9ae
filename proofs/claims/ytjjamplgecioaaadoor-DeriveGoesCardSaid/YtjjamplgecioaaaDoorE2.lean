namespace Go.Proofs.YtjjamplgecioaaaDoor

/-- A number of 32 bits. -/
abbrev Wd := BitVec 32
abbrev Reg := BitVec 32
/-- A state. -/
structure St where
  a : Wd
  b : Wd
  c : Wd
  d : Wd
theorem St.eq {s t : St} (h0 : s.a = t.a) (h1 : s.b = t.b) (h2 : s.c = t.c) (h3 : s.d = t.d) : s = t := by cases s; cases t; simp_all
instance : DecidableEq St := fun s t =>
  if h : s.a = t.a ∧ s.b = t.b ∧ s.c = t.c ∧ s.d = t.d then isTrue (St.eq h.1 h.2.1 h.2.2.1 h.2.2.2) else isFalse (by rintro rfl; exact h ⟨rfl, rfl, rfl, rfl⟩)

/-- Turned by 'k'. -/
def rot (x : Wd) (k : Nat) : Wd := x <<< k ||| x >>> (32 - k)
theorem rot_rot (x : Wd) (k : Nat) (h0 : 0 < k) (h : k < 32) : rot (rot x k) (32 - k) = x := by
  unfold rot
  apply BitVec.eq_of_getLsbD_eq
  intro i hi
  simp only [BitVec.getLsbD_or, BitVec.getLsbD_shiftLeft, BitVec.getLsbD_ushiftRight]
  have e : 32 - (32 - k) = k := by omega
  rw [e]
  by_cases h1 : i < 32 - k
  · have a1 : k + i < 32 := by omega
    have a2 : ¬ k + i < k := by omega
    have a3 : k + i - k = i := by omega
    have a4 : x.getLsbD (32 - k + (k + i)) = false := BitVec.getLsbD_of_ge _ _ (by omega)
    simp [h1, a1, a2, a3, a4]
  · have a1 : i - (32 - k) < 32 := by omega
    have a2 : i - (32 - k) < k := by omega
    have a3 : 32 - k + (i - (32 - k)) = i := by omega
    have a4 : ¬ k + i < 32 := by omega
    have a5 : x.getLsbD (32 - k + (k + i)) = false := BitVec.getLsbD_of_ge _ _ (by omega)
    simp [hi, h1, a2, a3, a4, a5]
theorem rot_16 (x : Wd) : rot (rot x 16) 16 = x := rot_rot x 16 (by omega) (by omega)
theorem rot_12 (x : Wd) : rot (rot x 12) 20 = x := rot_rot x 12 (by omega) (by omega)
theorem rot_20 (x : Wd) : rot (rot x 20) 12 = x := rot_rot x 20 (by omega) (by omega)
theorem rot_8 (x : Wd) : rot (rot x 8) 24 = x := rot_rot x 8 (by omega) (by omega)
theorem rot_24 (x : Wd) : rot (rot x 24) 8 = x := rot_rot x 24 (by omega) (by omega)
theorem rot_7 (x : Wd) : rot (rot x 7) 25 = x := rot_rot x 7 (by omega) (by omega)
theorem rot_25 (x : Wd) : rot (rot x 25) 7 = x := rot_rot x 25 (by omega) (by omega)
theorem xor2 (x y : Wd) : x ^^^ y ^^^ y = x := by rw [BitVec.xor_assoc, BitVec.xor_self, BitVec.xor_zero]
theorem add_sub (x y : Wd) : x + y - y = x := BitVec.add_sub_cancel x y
theorem sub_add (x y : Wd) : x - y + y = x := BitVec.sub_add_cancel x y

def kon (k : Nat) : Wd := (BitVec.ofNat 32 k + 1#32) * 2654435769#32
/-- A round. -/
def rnd (k : Nat) (s : St) : St :=
  let a1 := s.a + s.b
  let d1 := rot (s.d ^^^ a1) 16
  let c1 := s.c + d1
  let b1 := rot (s.b ^^^ c1) 12
  let a2 := a1 + b1
  let d2 := rot (d1 ^^^ a2) 8
  let c2 := c1 + d2
  let b2 := rot (b1 ^^^ c2) 7
  ⟨b2, c2, d2, a2 ^^^ kon k⟩
/-- It taken back. -/
def unr (k : Nat) (s : St) : St :=
  let a2 := s.d ^^^ kon k
  let b1 := rot s.a 25 ^^^ s.b
  let c1 := s.b - s.c
  let d1 := rot s.c 24 ^^^ a2
  let a1 := a2 - b1
  let b := rot b1 20 ^^^ c1
  let c := c1 - d1
  let d := rot d1 16 ^^^ a1
  ⟨a1 - b, b, c, d⟩
theorem unr_rnd (k : Nat) (s : St) : unr k (rnd k s) = s := by
  simp only [unr, rnd, xor2, rot_7, rot_8, rot_12, rot_16, add_sub]
theorem rnd_unr (k : Nat) (s : St) : rnd k (unr k s) = s := by
  simp only [unr, rnd, xor2, rot_25, rot_24, rot_20, rot_16, sub_add]
/-- The first 'k' rounds. -/
def rnds : Nat → St → St
  | 0, s => s
  | k + 1, s => rnd k (rnds k s)
/-- The last of 'k' rounds taken back first. -/
def unrs : Nat → St → St
  | 0, s => s
  | k + 1, s => unrs k (unr k s)
def permF (s : St) : St := rnds 8 s
def backF (s : St) : St := unrs 8 s
theorem unrs_rnds (k : Nat) (s : St) : unrs k (rnds k s) = s := by
  induction k with
  | zero => rfl
  | succ k ih => rw [rnds, unrs, unr_rnd, ih]
theorem rnds_unrs (k : Nat) (s : St) : rnds k (unrs k s) = s := by
  induction k generalizing s with
  | zero => rfl
  | succ k ih => rw [unrs, rnds, ih, rnd_unr]
theorem back_perm (s : St) : backF (permF s) = s := unrs_rnds 8 s
theorem perm_back (s : St) : permF (backF s) = s := rnds_unrs 8 s
theorem perm_inj {s t : St} : permF s = permF t ↔ s = t := ⟨fun h => by rw [← back_perm s, h, back_perm], fun h => by rw [h]⟩

/-! ### octets -/
/-- An octet as a number. -/
def oc (c : UInt8) : Wd := c.toBitVec.setWidth 32
/-- The number of four octets. -/
def four (l : List UInt8) : Wd := oc (l.getD 0 0) ||| oc (l.getD 1 0) <<< 8 ||| oc (l.getD 2 0) <<< 16 ||| oc (l.getD 3 0) <<< 24
/-- A number's four octets. -/
def oct (x : Wd) : List UInt8 := [⟨x.setWidth 8⟩, ⟨(x >>> 8).setWidth 8⟩, ⟨(x >>> 16).setWidth 8⟩, ⟨(x >>> 24).setWidth 8⟩]
theorem oct_len (x : Wd) : (oct x).length = 4 := rfl
theorem four_app (x : Wd) (r : List UInt8) : four (oct x ++ r) = x := by
  show (x.setWidth 8).setWidth 32 ||| ((x >>> 8).setWidth 8).setWidth 32 <<< 8 ||| ((x >>> 16).setWidth 8).setWidth 32 <<< 16 ||| ((x >>> 24).setWidth 8).setWidth 32 <<< 24 = x
  apply BitVec.eq_of_getLsbD_eq
  intro i hi
  simp only [BitVec.getLsbD_or, BitVec.getLsbD_shiftLeft, BitVec.getLsbD_ushiftRight, BitVec.getLsbD_setWidth]
  rcases Nat.lt_or_ge i 8 with h | h
  · have b1 : i < 16 := by omega
    have b2 : i < 24 := by omega
    simp [h, b1, b2, hi]
  · rcases Nat.lt_or_ge i 16 with h1 | h1
    · have b2 : i < 24 := by omega
      have c0 : ¬ i < 8 := by omega
      have c1 : i - 8 < 32 := by omega
      have c2 : i - 8 < 8 := by omega
      have c3 : 8 + (i - 8) = i := by omega
      simp [h1, b2, hi, c0, c1, c2, c3]
    · rcases Nat.lt_or_ge i 24 with h2 | h2
      · have c0 : ¬ i < 8 := by omega
        have c1 : ¬ i < 16 := by omega
        have d1 : ¬ i - 8 < 8 := by omega
        have c2 : i - 16 < 8 := by omega
        have c4 : i - 16 < 32 := by omega
        have c3 : 16 + (i - 16) = i := by omega
        simp [h2, hi, c0, c1, c2, c3, c4, d1]
      · have c0 : ¬ i < 8 := by omega
        have c1 : ¬ i < 16 := by omega
        have c5 : ¬ i < 24 := by omega
        have d1 : ¬ i - 8 < 8 := by omega
        have d2 : ¬ i - 16 < 8 := by omega
        have c2 : i - 24 < 8 := by omega
        have c4 : i - 24 < 32 := by omega
        have c3 : 24 + (i - 24) = i := by omega
        simp [hi, c0, c1, c5, c2, c3, c4, d1, d2]
theorem four_bits (a b c d : UInt8) (i : Nat) (hi : i < 8) : (four [a, b, c, d]).getLsbD i = a.toBitVec.getLsbD i ∧ (four [a, b, c, d]).getLsbD (8 + i) = b.toBitVec.getLsbD i ∧ (four [a, b, c, d]).getLsbD (16 + i) = c.toBitVec.getLsbD i ∧ (four [a, b, c, d]).getLsbD (24 + i) = d.toBitVec.getLsbD i := by
  have z : ∀ (x : UInt8) (j : Nat), 8 ≤ j → x.toBitVec.getLsbD j = false := fun x j h => BitVec.getLsbD_of_ge _ _ h
  have e : four [a, b, c, d] = a.toBitVec.setWidth 32 ||| b.toBitVec.setWidth 32 <<< 8 ||| c.toBitVec.setWidth 32 <<< 16 ||| d.toBitVec.setWidth 32 <<< 24 := rfl
  rw [e]
  simp only [BitVec.getLsbD_or, BitVec.getLsbD_shiftLeft, BitVec.getLsbD_setWidth]
  refine ⟨?_, ?_, ?_, ?_⟩
  · have b0 : i < 32 := by omega
    have b1 : i < 16 := by omega
    have b2 : i < 24 := by omega
    simp [b0, b1, b2, hi]
  · have b0 : 8 + i < 32 := by omega
    have b1 : 8 + i < 16 := by omega
    have b2 : 8 + i < 24 := by omega
    have c1 : i < 32 := by omega
    simp [b0, b1, b2, hi, c1]
  · have b0 : 16 + i < 32 := by omega
    have b2 : 16 + i < 24 := by omega
    have c1 : i < 32 := by omega
    have c2 : 16 + i - 8 = 8 + i := by omega
    simp [b0, b2, hi, c1, c2, z a (16 + i) (by omega)]
  · have b0 : 24 + i < 32 := by omega
    have c1 : i < 32 := by omega
    have c2 : 24 + i - 8 = 16 + i := by omega
    have c3 : 24 + i - 16 = 8 + i := by omega
    simp [b0, hi, c1, c2, c3, z a (24 + i) (by omega), z b (16 + i) (by omega)]
theorem oct_four {l : List UInt8} (hl : l.length = 4) : oct (four l) = l := by
  match l, hl with
  | [a, b, c, d], _ =>
    have f := four_bits a b c d
    generalize four [a, b, c, d] = x at *
    have q : ∀ {y : BitVec 8} {u : UInt8}, (∀ i, i < 8 → y.getLsbD i = u.toBitVec.getLsbD i) → (⟨y⟩ : UInt8) = u := fun {y u} h => by
      cases u; congr 1; exact BitVec.eq_of_getLsbD_eq h
    unfold oct
    rw [q (u := a) (y := x.setWidth 8), q (u := b) (y := (x >>> 8).setWidth 8), q (u := c) (y := (x >>> 16).setWidth 8), q (u := d) (y := (x >>> 24).setWidth 8)]
    all_goals
      intro i hi
      obtain ⟨f0, f1, f2, f3⟩ := f i hi
      simp only [BitVec.getLsbD_setWidth, BitVec.getLsbD_ushiftRight, hi, decide_true, Bool.true_and]
      assumption
theorem four_inj {l m : List UInt8} (hl : l.length = 4) (hl' : m.length = 4) (e : four l = four m) : l = m := by rw [← oct_four hl, e, oct_four hl']
def octs4 (s : St) : List UInt8 := oct s.a ++ oct s.b ++ oct s.c ++ oct s.d
def ofF (l : List UInt8) : St := ⟨four (l.take 4), four ((l.drop 4).take 4), four ((l.drop 8).take 4), four (l.drop 12)⟩
theorem four_take (x : Wd) (r : List UInt8) : four ((oct x ++ r).take 4) = x := by
  have : (oct x ++ r).take 4 = oct x := by simp [oct]
  rw [this]; simpa using four_app x []
theorem of_octs (s : St) : ofF (octs4 s) = s := by
  refine St.eq ?_ ?_ ?_ ?_
  · show four ((octs4 s).take 4) = s.a
    unfold octs4; rw [List.append_assoc, List.append_assoc]; exact four_take _ _
  · show four (((octs4 s).drop 4).take 4) = s.b
    have : (octs4 s).drop 4 = oct s.b ++ (oct s.c ++ oct s.d) := by simp [octs4, oct]
    rw [this]; exact four_take _ _
  · show four (((octs4 s).drop 8).take 4) = s.c
    have : (octs4 s).drop 8 = oct s.c ++ oct s.d := by simp [octs4, oct]
    rw [this]; exact four_take _ _
  · show four ((octs4 s).drop 12) = s.d
    have : (octs4 s).drop 12 = oct s.d := by simp [octs4, oct]
    rw [this]; simpa using four_app s.d []
theorem octs_len (s : St) : (octs4 s).length = 16 := rfl
theorem octs_of {l : List UInt8} (hl : l.length = 16) : octs4 (ofF l) = l := by
  unfold octs4 ofF
  simp only []
  rw [oct_four (by simp; omega), oct_four (by simp; omega), oct_four (by simp; omega), oct_four (by simp; omega)]
  match l, hl with
  | [a0, a1, a2, a3, a4, a5, a6, a7, a8, a9, a10, a11, a12, a13, a14, a15], _ => rfl
/-- A number of as many octets as one likes: of the first four alone. -/
theorem four_take4 (l : List UInt8) : four (l.take 4) = four l := by
  unfold four
  simp [List.getD_eq_getElem?_getD]

/-! ### absorbing -/
/-- Eight octets taken in. -/
def inF (s : St) (l : List UInt8) : St := permF { s with a := s.a ^^^ four (l.take 4), b := s.b ^^^ four ((l.drop 4).take 4) }
/-- 'n' times eight octets. -/
def absF : Nat → St → List UInt8 → St
  | 0, s, _ => s
  | n + 1, s, l => absF n (inF s l) (l.drop 8)
/-- A text with 128 behind it, and zeros up to a whole eight. -/
def padF (l : List UInt8) : List UInt8 := l ++ 128 :: List.replicate (7 - l.length % 8) 0
def absorbF (s : St) (l : List UInt8) : St := absF (l.length / 8 + 1) s (padF l)
theorem pad_len (l : List UInt8) : (padF l).length = (l.length / 8 + 1) * 8 := by
  simp [padF]; omega
theorem pad_drop {l : List UInt8} (h : 8 ≤ l.length) : (padF l).drop 8 = padF (l.drop 8) := by
  unfold padF
  rw [List.drop_append_of_le_length h, List.length_drop]
  congr 3
  omega
theorem pad_take {l : List UInt8} (h : 8 ≤ l.length) : (padF l).take 8 = l.take 8 := by
  unfold padF
  rw [List.take_append_of_le_length h]
theorem inF_take {s : St} {l : List UInt8} : inF s (l.take 8) = inF s l := by
  have e1 : (l.take 8).take 4 = l.take 4 := by rw [List.take_take]; rfl
  have e2 : ((l.take 8).drop 4).take 4 = (l.drop 4).take 4 := by rw [List.drop_take, List.take_take]; rfl
  unfold inF
  rw [e1, e2]
/-- P8.2: what is behind the first eight is absorbed to the state that comes of them. -/
theorem absorb_blocks {s : St} {l : List UInt8} (h : 8 ≤ l.length) : absorbF s l = absorbF (inF s l) (l.drop 8) := by
  unfold absorbF
  have e : l.length / 8 + 1 = ((l.drop 8).length / 8 + 1) + 1 := by rw [List.length_drop]; omega
  have e2 : inF s (padF l) = inF s l := by rw [← inF_take, pad_take h, inF_take]
  rw [e, absF, pad_drop h, e2]
theorem xor_inj {x y z : Wd} : x ^^^ z = y ^^^ z ↔ x = y := ⟨fun h => by rw [← xor2 x z, h, xor2], fun h => by rw [h]⟩
theorem xor_inj' {x y z : Wd} : z ^^^ x = z ^^^ y ↔ x = y := by rw [BitVec.xor_comm z x, BitVec.xor_comm z y]; exact xor_inj
theorem inF_inj {s t : St} {l : List UInt8} : inF s l = inF t l ↔ s = t := by
  unfold inF
  rw [perm_inj]
  constructor
  · intro h
    injection h with h1 h2 h3 h4
    exact St.eq (xor_inj.1 h1) (xor_inj.1 h2) h3 h4
  · rintro rfl; rfl
theorem absF_inj {n : Nat} {s t : St} {l : List UInt8} : absF n s l = absF n t l ↔ s = t := by
  induction n generalizing s t l with
  | zero => exact Iff.rfl
  | succ n ih => rw [absF, absF, ih, inF_inj]
theorem absorb_inj {s t : St} {l : List UInt8} : absorbF s l = absorbF t l ↔ s = t := absF_inj
/-- Of texts of fewer than eight octets no two bring one state to the same. -/
theorem pad_inj {l m : List UInt8} (hl : l.length < 8) (hm : m.length < 8) (h : padF l = padF m) : l = m := by
  rcases Nat.lt_trichotomy l.length m.length with hlt | heq | hlt
  · exfalso
    have e1 : (padF m)[m.length]? = some 128 := by simp [padF]
    have e2 : (padF l)[m.length]? = some 0 := by
      unfold padF
      rw [List.getElem?_append_right (by omega)]
      obtain ⟨d, hd⟩ : ∃ d, m.length - l.length = d + 1 := ⟨m.length - l.length - 1, by omega⟩
      rw [hd, List.getElem?_cons_succ, List.getElem?_replicate, if_pos (by omega)]
    rw [h, e1] at e2
    cases e2
  · unfold padF at h
    exact (List.append_inj h heq).1
  · exfalso
    have e1 : (padF l)[l.length]? = some 128 := by simp [padF]
    have e2 : (padF m)[l.length]? = some 0 := by
      unfold padF
      rw [List.getElem?_append_right (by omega)]
      obtain ⟨d, hd⟩ : ∃ d, l.length - m.length = d + 1 := ⟨l.length - m.length - 1, by omega⟩
      rw [hd, List.getElem?_cons_succ, List.getElem?_replicate, if_pos (by omega)]
    rw [← h, e1] at e2
    cases e2
theorem absorb_short {s : St} {l m : List UInt8} (hl : l.length < 8) (hm : m.length < 8) : absorbF s l = absorbF s m ↔ l = m := by
  refine ⟨fun h => pad_inj hl hm ?_, fun h => by rw [h]⟩
  unfold absorbF at h
  have e1 : l.length / 8 + 1 = 1 := by omega
  have e2 : m.length / 8 + 1 = 1 := by omega
  rw [e1, e2, absF, absF, absF, absF] at h
  unfold inF at h
  rw [perm_inj] at h
  injection h with h1 h2
  have l1 := pad_len l; have l2 := pad_len m
  rw [e1] at l1; rw [e2] at l2
  have g1 := four_inj (by rw [List.length_take]; omega) (by rw [List.length_take]; omega) (xor_inj'.1 h1)
  have g2 := four_inj (by rw [List.length_take, List.length_drop]; omega) (by rw [List.length_take, List.length_drop]; omega) (xor_inj'.1 h2)
  have f : ∀ p : List UInt8, p.length = 8 → p = p.take 4 ++ (p.drop 4).take 4 := fun p hp => by
    have : (p.drop 4).take 4 = p.drop 4 := List.take_of_length_le (by rw [List.length_drop]; omega)
    rw [this, List.take_append_drop]
  rw [f (padF l) (by omega), f (padF m) (by omega), g1, g2]

/-! ### squeezing -/
/-- 'n' times eight octets. -/
def sqF : Nat → St → List UInt8
  | 0, _ => []
  | n + 1, s => oct s.a ++ oct s.b ++ sqF n (permF s)
def squeezeF (s : St) (n : Nat) : List UInt8 := (sqF ((n + 7) / 8) s).take n
theorem sqF_len (n : Nat) (s : St) : (sqF n s).length = n * 8 := by
  induction n generalizing s with
  | zero => rfl
  | succ n ih => rw [sqF, List.length_append, List.length_append, oct_len, oct_len, ih]; omega
theorem sqF_pre (n m : Nat) (s : St) (h : n ≤ m) : (sqF m s).take (n * 8) = sqF n s := by
  induction n generalizing m s with
  | zero => simp [sqF]
  | succ n ih =>
    obtain ⟨k, rfl⟩ : ∃ k, m = k + 1 := ⟨m - 1, by omega⟩
    have e8 : (oct s.a ++ oct s.b).length = 8 := rfl
    rw [sqF, sqF, List.take_append, e8, List.take_of_length_le (by rw [e8]; omega)]
    rw [show (n + 1) * 8 - 8 = n * 8 by omega, ih _ _ (by omega)]
theorem squeeze_len (s : St) (n : Nat) : (squeezeF s n).length = n := by
  unfold squeezeF
  rw [List.length_take, sqF_len]; omega
/-- P8.5: fewer octets are the beginning of more. -/
theorem squeeze_fewer (s : St) (n more : Nat) : (squeezeF s (n + more)).take n = squeezeF s n := by
  unfold squeezeF
  rw [List.take_take, Nat.min_eq_left (by omega)]
  have h := sqF_pre ((n + 7) / 8) ((n + more + 7) / 8) s (by omega)
  rw [← h, List.take_take, Nat.min_eq_left (by omega)]
/-- From the permuted state come those behind the first eight. -/
theorem squeeze_next (s : St) (n : Nat) : (squeezeF s (n + 8)).drop 8 = squeezeF (permF s) n := by
  unfold squeezeF
  have e8 : (oct s.a ++ oct s.b).length = 8 := rfl
  rw [show (n + 8 + 7) / 8 = (n + 7) / 8 + 1 by omega, sqF, List.drop_take, List.drop_append, e8, List.drop_of_length_le (by rw [e8]; omega)]
  simp

/-! ### envelopes: numbers of eight octets, streams, tags -/
abbrev Nx := BitVec 64
/-- A number's eight octets. -/
def eight (n : Nx) : List UInt8 := oct (n.setWidth 32) ++ oct ((n >>> 32).setWidth 32)
/-- The number of eight octets. -/
def of8 (l : List UInt8) : Nx := (four (l.take 4)).setWidth 64 ||| (four ((l.drop 4).take 4)).setWidth 64 <<< 32
theorem eight_len (n : Nx) : (eight n).length = 8 := rfl
theorem of8_app (n : Nx) (r : List UInt8) : of8 (eight n ++ r) = n := by
  have h1 : (eight n ++ r).take 4 = oct (n.setWidth 32) := rfl
  have h2 : ((eight n ++ r).drop 4).take 4 = oct ((n >>> 32).setWidth 32) := rfl
  have h3 : ∀ x, four (oct x) = x := fun x => by simpa using four_app x []
  unfold of8
  rw [h1, h2, h3, h3]
  apply BitVec.eq_of_getLsbD_eq
  intro i hi
  simp only [BitVec.getLsbD_or, BitVec.getLsbD_shiftLeft, BitVec.getLsbD_setWidth, BitVec.getLsbD_ushiftRight]
  by_cases h : i < 32
  · simp [h, hi]
  · have e : 32 + (i - 32) = i := by omega
    have c1 : i - 32 < 32 := by omega
    have c2 : i - 32 < 64 := by omega
    simp [h, hi, e, c1, c2]
theorem eight_of {l : List UInt8} (hl : l.length = 8) : eight (of8 l) = l := by
  have h1 : (l.take 4).length = 4 := by rw [List.length_take]; omega
  have h2 : ((l.drop 4).take 4).length = 4 := by rw [List.length_take, List.length_drop]; omega
  have g1 : (of8 l).setWidth 32 = four (l.take 4) := by
    unfold of8
    apply BitVec.eq_of_getLsbD_eq
    intro i hi
    have a1 : i < 64 := by omega
    simp [hi]
  have g2 : (of8 l >>> 32).setWidth 32 = four ((l.drop 4).take 4) := by
    unfold of8
    apply BitVec.eq_of_getLsbD_eq
    intro i hi
    have a1 : i < 64 := by omega
    have a2 : 32 + i < 64 := by omega
    have a3 : (four (l.take 4)).getLsbD (32 + i) = false := BitVec.getLsbD_of_ge _ _ (by omega)
    simp [hi, a2]
  unfold eight
  rw [g1, g2, oct_four h1, oct_four h2]
  have : (l.drop 4).take 4 = l.drop 4 := List.take_of_length_le (by rw [List.length_drop]; omega)
  rw [this, List.take_append_drop]
/-- What is ahead of what is absorbed: a number, and an octet. -/
def streamF (key : St) (n : Nx) (long : Nat) : List UInt8 := squeezeF (absorbF key (eight n ++ [1])) long
def tagF (key : St) (n : Nx) (t : List UInt8) : St := absorbF key (eight n ++ 2 :: t)
theorem stream_len (key : St) (n : Nx) (k : Nat) : (streamF key n k).length = k := squeeze_len _ _
theorem stream_fewer (key : St) (n : Nx) (k more : Nat) : (streamF key n (k + more)).take k = streamF key n k := squeeze_fewer _ _ _
/-- A text, exclusive or the stream. -/
def hidF (key : St) (n : Nx) (b : List UInt8) : List UInt8 := List.zipWith (· ^^^ ·) b (streamF key n b.length)
theorem hid_len (key : St) (n : Nx) (b : List UInt8) : (hidF key n b).length = b.length := by
  unfold hidF
  rw [List.length_zipWith, stream_len, Nat.min_self]
theorem xor_u8 (x y : UInt8) : x ^^^ y ^^^ y = x := by
  rw [UInt8.xor_assoc, UInt8.xor_self, UInt8.xor_zero]
theorem zip_twice (a s : List UInt8) (h : a.length ≤ s.length) : List.zipWith (· ^^^ ·) (List.zipWith (· ^^^ ·) a s) s = a := by
  induction a generalizing s with
  | nil => rfl
  | cons x r ih =>
    match s, h with
    | y :: s, h =>
      simp only [List.zipWith_cons_cons, xor_u8]
      rw [ih s (by simpa using h)]
theorem hid_hid (key : St) (n : Nx) (b : List UInt8) : hidF key n (hidF key n b) = b := by
  have h := hid_len key n b
  unfold hidF at *
  rw [h]
  exact zip_twice _ _ (by rw [stream_len]; omega)
theorem hid_inj {key : St} {n : Nx} {a b : List UInt8} : hidF key n a = hidF key n b ↔ a = b := ⟨fun h => by rw [← hid_hid key n a, h, hid_hid], fun h => by rw [h]⟩
theorem hid_get (key : St) (n : Nx) (b : List UInt8) (more i : Nat) (h : i < b.length) : (hidF key n b)[i]? = some (b[i] ^^^ (streamF key n (b.length + more))[i]'(by rw [stream_len]; omega)) := by
  have e := stream_fewer key n b.length more
  have e2 : (streamF key n b.length)[i]? = (streamF key n (b.length + more))[i]? := by
    rw [← e, List.getElem?_take_of_lt h]
  unfold hidF
  rw [List.getElem?_zipWith, e2, List.getElem?_eq_getElem h, List.getElem?_eq_getElem (by rw [stream_len]; omega)]
/-- Of one key and number no two texts of fewer than seven octets have one tag. -/
theorem tag_short {key : St} {n : Nx} {a b : List UInt8} (ha : a.length ≤ 6) (hb : b.length ≤ 6) : tagF key n a = tagF key n b ↔ a = b := by
  have e : ∀ t : List UInt8, tagF key n t = absorbF (inF key (eight n)) (2 :: t) := fun t => by
    unfold tagF
    rw [absorb_blocks (by rw [List.length_append, eight_len]; omega)]
    have h1 : (eight n ++ 2 :: t).drop 8 = 2 :: t := rfl
    have h2 : inF key (eight n ++ 2 :: t) = inF key (eight n) := by
      rw [← inF_take]
      have : (eight n ++ 2 :: t).take 8 = eight n := rfl
      rw [this]
    rw [h1, h2]
  rw [e, e, absorb_short (by simp; omega) (by simp; omega)]
  simp
/-! ### boxes as octets -/
structure Bx where
  n : Nx
  text : List UInt8
  tag : St
def bytesF (x : Bx) : List UInt8 := eight x.n ++ octs4 x.tag ++ x.text
def fromF (b : List UInt8) : Bx := ⟨of8 (b.take 8), b.drop 24, ofF ((b.drop 8).take 16)⟩
theorem bytes_len (x : Bx) : (bytesF x).length = x.text.length + 24 := by
  unfold bytesF
  rw [List.length_append, List.length_append, eight_len, octs_len]; omega
theorem from_bytes (x : Bx) : fromF (bytesF x) = x := by
  have h1 : (bytesF x).take 8 = eight x.n := rfl
  have h2 : ((bytesF x).drop 8).take 16 = octs4 x.tag := rfl
  have h3 : (bytesF x).drop 24 = x.text := rfl
  unfold fromF
  rw [h1, h2, h3, of_octs]
  have := of8_app x.n []
  rw [List.append_nil] at this
  rw [this]
theorem bytes_from {b : List UInt8} (h : 24 ≤ b.length) : bytesF (fromF b) = b := by
  unfold bytesF fromF
  simp only []
  rw [eight_of (by rw [List.length_take]; omega), octs_of (by rw [List.length_take, List.length_drop]; omega)]
  have e1 : b.drop 24 = (b.drop 8).drop 16 := by rw [List.drop_drop]
  rw [List.append_assoc, e1, List.take_append_drop, List.take_append_drop]
end Go.Proofs.YtjjamplgecioaaaDoor
