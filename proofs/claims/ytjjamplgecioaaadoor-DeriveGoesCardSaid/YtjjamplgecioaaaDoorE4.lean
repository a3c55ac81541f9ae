import Derived.Test.YtjjamplgecioaaaDoorE2
namespace Go.Proofs.YtjjamplgecioaaaDoor

/-! ### what derive tells, without the model -/
def zS : St := ⟨0#32, 0#32, 0#32, 0#32⟩
/-- The state behind a salt, and a word. -/
def startF (word salt : List UInt8) : St := absorbF (absorbF zS salt) word
/-- The state behind a word, 'n' times. -/
def goF : Nat → St → List UInt8 → St
  | 0, s, _ => s
  | n + 1, s, l => absorbF (goF n s l) l
theorem goF_add (a b : Nat) (s : St) (l : List UInt8) : goF b (goF a s l) l = goF (a + b) s l := by
  induction b with
  | zero => rfl
  | succ b ih => rw [goF, ih]; rfl
theorem goF_inj {n : Nat} {s t : St} {l : List UInt8} : goF n s l = goF n t l ↔ s = t := by
  induction n with
  | zero => exact Iff.rfl
  | succ n ih => rw [goF, goF, absorb_inj, ih]
/-- Start, with its error. -/
def startE (word salt : List UInt8) : St × Nat := if 64 < word.length ∨ 64 < salt.length then (zS, 3) else (startF word salt, 0)
/-- Go, with its error. -/
def goE (s : St) (word : List UInt8) (z : Int) : St × Nat := if 64 < word.length then (zS, 3) else if z < 0 ∨ 4096 < z then (zS, 1) else (goF z.toNat s word, 0)
/-- Key, with its error. -/
def keyE (word salt : List UInt8) (z : Int) : St × Nat :=
  if 64 < word.length ∨ 64 < salt.length then (zS, 3) else if z < 1 then (zS, 1) else goE (startF word salt) word z
def markF (s : St) : Wd := (permF s).a ^^^ s.d
theorem startE_bad {a b : List UInt8} (h : 64 < a.length ∨ 64 < b.length) : startE a b = (zS, 3) := if_pos h
theorem startE_good {a b : List UInt8} (h : a.length ≤ 64) (h' : b.length ≤ 64) : startE a b = (startF a b, 0) := if_neg (by omega)
theorem goE_long {s : St} {a : List UInt8} {z : Int} (h : 64 < a.length) : goE s a z = (zS, 3) := if_pos h
theorem goE_arg {s : St} {a : List UInt8} {z : Int} (h : a.length ≤ 64) (hz : z < 0 ∨ 4096 < z) : goE s a z = (zS, 1) := by
  unfold goE; rw [if_neg (by omega), if_pos hz]
theorem goE_good {s : St} {a : List UInt8} {n : Nat} {z : Int} (h : a.length ≤ 64) (hz : z = n) (hn : n ≤ 4096) : goE s a z = (goF n s a, 0) := by
  subst hz
  unfold goE; rw [if_neg (by omega), if_neg (by omega)]; rfl
theorem keyE_bad {a b : List UInt8} {z : Int} (h : 64 < a.length ∨ 64 < b.length) : keyE a b z = (zS, 3) := if_pos h
theorem keyE_arg {a b : List UInt8} {z : Int} (h : a.length ≤ 64) (h' : b.length ≤ 64) (hz : z < 1) : keyE a b z = (zS, 1) := by
  unfold keyE; rw [if_neg (by omega), if_pos hz]
theorem keyE_go {a b : List UInt8} {z : Int} (h : a.length ≤ 64) (h' : b.length ≤ 64) (hz : ¬ z < 1) : keyE a b z = goE (startF a b) a z := by
  unfold keyE; rw [if_neg (by omega), if_neg hz]
theorem keyE_good {a b : List UInt8} {n : Nat} {z : Int} (h : a.length ≤ 64) (h' : b.length ≤ 64) (hz : z = n) (h1 : 1 ≤ n) (hn : n ≤ 4096) : keyE a b z = (goF n (startF a b) a, 0) := by
  rw [keyE_go h h' (by omega), goE_good h hz hn]
/-- Of one word, and so many rounds, no two short salts have one key. -/
theorem key_salts {n : Nat} {l a b : List UInt8} (ha : a.length ≤ 7) (hb : b.length ≤ 7) : goF n (startF l a) l = goF n (startF l b) l ↔ a = b := by
  unfold startF
  rw [goF_inj, absorb_inj, absorb_short (by omega) (by omega)]
theorem start_words {l a b : List UInt8} (ha : a.length ≤ 7) (hb : b.length ≤ 7) : startF a l = startF b l ↔ a = b := by
  unfold startF
  rw [absorb_short (by omega) (by omega)]
theorem go_once {s : St} {a b : List UInt8} (ha : a.length ≤ 7) (hb : b.length ≤ 7) : goF 1 s a = goF 1 s b ↔ a = b := by
  show absorbF s a = absorbF s b ↔ _
  rw [absorb_short (by omega) (by omega)]
end Go.Proofs.YtjjamplgecioaaaDoor
