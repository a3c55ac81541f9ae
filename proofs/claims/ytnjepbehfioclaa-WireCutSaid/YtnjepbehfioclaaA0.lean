import Derived.Lib.Strings
import Derived.Lib.Bytealg
namespace Go.Proofs.Ytnjepbehfioclaa

/-- What is between slashes. -/
def parts : List UInt8 → List (List UInt8)
  | [] => [[]]
  | c :: l => if c = 47 then [] :: parts l else
    match parts l with
    | [] => [[c]]
    | p :: ps => (c :: p) :: ps
/-- Parts, a slash between. -/
def tailJ : List (List UInt8) → List UInt8
  | [] => []
  | p :: ps => 47 :: p ++ tailJ ps
def jn : List (List UInt8) → List UInt8
  | [] => []
  | p :: ps => p ++ tailJ ps

theorem parts_ne (l : List UInt8) : parts l ≠ [] := by
  cases l with
  | nil => simp [parts]
  | cons c l =>
    unfold parts
    split
    · simp
    · split <;> simp
theorem parts_noslash (u : List UInt8) (h : 47 ∉ u) : parts u = [u] := by
  induction u with
  | nil => rfl
  | cons c l ih =>
    have h1 : c ≠ 47 := fun e => h (by simp [e])
    have h2 : 47 ∉ l := fun e => h (by simp [e])
    unfold parts
    rw [if_neg h1, ih h2]
theorem parts_slash (u v : List UInt8) (h : 47 ∉ u) : parts (u ++ 47 :: v) = u :: parts v := by
  induction u with
  | nil => simp [parts]
  | cons c l ih =>
    have h1 : c ≠ 47 := fun e => h (by simp [e])
    have h2 : 47 ∉ l := fun e => h (by simp [e])
    rw [List.cons_append, parts, if_neg h1, ih h2]
theorem parts_no (l : List UInt8) : ∀ p ∈ parts l, 47 ∉ p := by
  induction l with
  | nil => simp [parts]
  | cons c l ih =>
    unfold parts
    split
    · intro p hp
      rcases List.mem_cons.1 hp with rfl | hp
      · simp
      · exact ih p hp
    · rename_i hc
      cases hq : parts l with
      | nil => exact absurd hq (parts_ne l)
      | cons q qs =>
        rw [hq] at ih
        intro p hp
        rcases List.mem_cons.1 hp with rfl | hp
        · have := ih q (by simp)
          simp only [List.mem_cons, not_or]
          exact ⟨fun e => hc e.symm, this⟩
        · exact ih p (by simp [hp])
theorem jn_parts (l : List UInt8) : jn (parts l) = l := by
  induction l with
  | nil => rfl
  | cons c l ih =>
    unfold parts
    cases hq : parts l with
    | nil => exact absurd hq (parts_ne l)
    | cons q qs =>
      rw [hq] at ih
      by_cases hc : c = 47
      · simp only [hc, if_true]
        simpa [jn, tailJ] using ih
      · simp only [hc, if_false]
        simpa [jn] using ih
theorem parts_jn : ∀ (ps : List (List UInt8)), ps ≠ [] → (∀ p ∈ ps, 47 ∉ p) → parts (jn ps) = ps
  | [], h, _ => absurd rfl h
  | [p], _, h => by simpa [jn, tailJ] using parts_noslash p (h p (by simp))
  | p :: q :: qs, _, h => by
    have ih := parts_jn (q :: qs) (by simp) (fun x hx => h x (by simp [hx]))
    have e : jn (p :: q :: qs) = p ++ 47 :: jn (q :: qs) := by simp [jn, tailJ]
    rw [e, parts_slash _ _ (h p (by simp)), ih]
theorem tailJ_append (ps qs : List (List UInt8)) : tailJ (ps ++ qs) = tailJ ps ++ tailJ qs := by
  induction ps with
  | nil => rfl
  | cons p ps ih => simp [tailJ, ih]
theorem jn_append (ps qs : List (List UInt8)) (h : ps ≠ []) : jn (ps ++ qs) = jn ps ++ tailJ qs := by
  cases ps with
  | nil => exact absurd rfl h
  | cons p ps => simp [jn, tailJ_append]
theorem jn_snoc (ps : List (List UInt8)) (p : List UInt8) (h : ps ≠ []) : jn (ps ++ [p]) = jn ps ++ 47 :: p := by
  rw [jn_append _ _ h]; simp [tailJ]
/-- A text, and its length, of parts. -/
def lens (ps : List (List UInt8)) : Nat := (ps.map List.length).sum
theorem tailJ_length (ps : List (List UInt8)) : (tailJ ps).length = ps.length + lens ps := by
  induction ps with
  | nil => rfl
  | cons p ps ih => simp [tailJ, lens] at ih ⊢; omega
theorem jn_length (ps : List (List UInt8)) (h : ps ≠ []) : (jn ps).length + 1 = ps.length + lens ps := by
  cases ps with
  | nil => exact absurd rfl h
  | cons p ps => simp [jn, tailJ_length, lens]; omega

/-! ### cut at a slash -/
def hd (l : List UInt8) : List UInt8 := l.takeWhile (fun c => c != 47)
def hasS (l : List UInt8) : Bool := l.contains 47
def tl (l : List UInt8) : List UInt8 := (l.dropWhile (fun c => c != 47)).drop 1
theorem take_no (l : List UInt8) : 47 ∉ l.takeWhile (fun c => c != 47) := by
  induction l with
  | nil => simp
  | cons c l ih =>
    rw [List.takeWhile_cons]
    split
    · rename_i h
      simp at h
      simp only [List.mem_cons, not_or]
      exact ⟨fun e => h e.symm, ih⟩
    · simp
theorem hd_no (l : List UInt8) : 47 ∉ hd l := take_no l
theorem cut_has : ∀ (l : List UInt8), hasS l = true → l = hd l ++ 47 :: tl l
  | [], h => by simp [hasS] at h
  | c :: l, h => by
    by_cases hc : c = 47
    · subst hc; simp [hd, tl]
    · have h' : hasS l = true := by
        simp [hasS] at h ⊢
        exact h.resolve_left (fun e => hc e.symm)
      have ih := cut_has l h'
      have e1 : hd (c :: l) = c :: hd l := by simp [hd, hc]
      have e2 : tl (c :: l) = tl l := by simp [tl, hc]
      rw [e1, e2, List.cons_append, ← ih]
theorem cut_not : ∀ (l : List UInt8), hasS l = false → hd l = l ∧ tl l = []
  | [], _ => by simp [hd, tl]
  | c :: l, h => by
    have h' : ¬ c = 47 ∧ hasS l = false := by
      simp [hasS] at h ⊢
      exact ⟨fun e => h.1 e.symm, h.2⟩
    have ih := cut_not l h'.2
    have e1 : hd (c :: l) = c :: hd l := by simp [hd, h'.1]
    have e2 : tl (c :: l) = tl l := by simp [tl, h'.1]
    rw [e1, e2]
    exact ⟨by rw [ih.1], ih.2⟩
theorem no_of_not (l : List UInt8) (h : hasS l = false) : 47 ∉ l := by
  simpa [hasS] using h
theorem parts_has (l : List UInt8) (h : hasS l = true) : parts l = hd l :: parts (tl l) := by
  conv => lhs; rw [cut_has l h]
  exact parts_slash _ _ (hd_no l)
theorem parts_not (l : List UInt8) (h : hasS l = false) : parts l = [hd l] := by
  rw [parts_noslash l (no_of_not l h), (cut_not l h).1]
theorem has_of_mem (u v : List UInt8) : hasS (u ++ 47 :: v) = true := by simp [hasS]
theorem hd_tl_of (u v : List UInt8) (h : 47 ∉ u) : hd (u ++ 47 :: v) = u ∧ tl (u ++ 47 :: v) = v := by
  induction u with
  | nil => simp [hd, tl]
  | cons c l ih =>
    have h1 : c ≠ 47 := fun e => h (by simp [e])
    have h2 : 47 ∉ l := fun e => h (by simp [e])
    have e1 : hd (c :: (l ++ 47 :: v)) = c :: hd (l ++ 47 :: v) := by simp [hd, h1]
    have e2 : tl (c :: (l ++ 47 :: v)) = tl (l ++ 47 :: v) := by simp [tl, h1]
    rw [List.cons_append, e1, e2, (ih h2).1, (ih h2).2]
    exact ⟨rfl, rfl⟩

/-! ### what a name is -/
def okC (c : UInt8) : Bool := decide (33 ≤ c.toNat) && decide (c.toNat ≤ 126)
def ofName (l : List UInt8) : Bool := l.all okC
def isE (p : List UInt8) : Bool := p.isEmpty
def isD (p : List UInt8) : Bool := p == [46]
def isU (p : List UInt8) : Bool := p == [46, 46]
def okP (p : List UInt8) : Bool := !isE p && !isD p && !isU p
def nameB (l : List UInt8) : Bool := decide (l.length ≤ 96) && ofName l && (parts l).all okP
def folderB (l : List UInt8) : Bool := isE l || nameB l

/-! ### cleaning -/
def stepK (k : List (List UInt8)) (p : List UInt8) : Option (List (List UInt8)) :=
  if isE p || isD p then some k else if isU p then (if k = [] then none else some k.dropLast) else some (k ++ [p])
def runK : List (List UInt8) → List (List UInt8) → Option (List (List UInt8))
  | k, [] => some k
  | k, p :: ps => (stepK k p).bind (fun k' => runK k' ps)
def endK : Option (List (List UInt8)) → List UInt8 × Int
  | none => ([], 4)
  | some k => if k = [] then ([], 1) else (jn k, 0)
def cleanF (l : List UInt8) : List UInt8 × Int :=
  if 96 < l.length then ([], 3) else if ofName l = false then ([], 2) else endK (runK [] (parts l))
def joinF (d l : List UInt8) : List UInt8 × Int := if folderB d = false then ([], 1) else cleanF (d ++ 47 :: l)
def splitF (p : List UInt8) : List UInt8 × List UInt8 × Int :=
  if nameB p = false then ([], [], 1) else (jn (parts p).dropLast, (parts p).getLastD [], 0)
def withinB (d p : List UInt8) : Bool := isE d || (d ++ [47]).isPrefixOf p
def withinF (d p : List UInt8) : Bool × Int := if folderB d = false ∨ nameB p = false then (false, 1) else (withinB d p, 0)
def lex : List (List UInt8) → List (List UInt8) → Int
  | [], [] => 0
  | [], _ :: _ => -1
  | _ :: _, [] => 1
  | p :: ps, q :: qs => if Lib.compareBytes p q ≠ 0 then Lib.compareBytes p q else lex ps qs
def cmpF (a b : List UInt8) : Int × Int := if nameB a = false ∨ nameB b = false then (0, 1) else (lex (parts a) (parts b), 0)

/-- Parts held against what is left of a text. -/
def cmpP : List (List UInt8) → List UInt8 → Int
  | [], r => Lib.compareBytes [] r
  | p :: ps, r => if Lib.compareBytes p (hd r) = 0 then cmpP ps (tl r) else Lib.compareBytes p (hd r)
theorem cmpP_on {ps : List (List UInt8)} {p r : List UInt8} (h : Lib.compareBytes p (hd r) = 0) : cmpP (p :: ps) r = cmpP ps (tl r) := by rw [cmpP, if_pos h]
theorem cmpP_off {ps : List (List UInt8)} {p r : List UInt8} (h : Lib.compareBytes p (hd r) ≠ 0) : cmpP (p :: ps) r = Lib.compareBytes p (hd r) := by rw [cmpP, if_neg h]

/-! ### what is kept -/
theorem runK_append (k pre post : List (List UInt8)) : runK k (pre ++ post) = (runK k pre).bind (fun k' => runK k' post) := by
  induction pre generalizing k with
  | nil => rfl
  | cons p ps ih =>
    rw [List.cons_append, runK, runK]
    cases stepK k p with
    | none => rfl
    | some k' => exact ih k'
theorem runK_snoc (k pre : List (List UInt8)) (x : List UInt8) : runK k (pre ++ [x]) = (runK k pre).bind (fun k' => stepK k' x) := by
  rw [runK_append]
  congr 1
  funext k'
  rw [runK]
  cases stepK k' x <;> rfl
theorem stepK_len {k k' : List (List UInt8)} {x : List UInt8} (h : stepK k x = some k') : k'.length ≤ k.length + 1 := by
  unfold stepK at h
  split at h
  · injection h with h; subst h; omega
  · split at h
    · split at h
      · cases h
      · injection h with h; subst h; simp; omega
    · injection h with h; subst h; simp
theorem runK_len : ∀ (pre k k' : List (List UInt8)), runK k pre = some k' → k'.length ≤ k.length + pre.length
  | [], k, k', h => by injection h with h; subst h; simp
  | p :: ps, k, k', h => by
    rw [runK] at h
    cases hs : stepK k p with
    | none => rw [hs] at h; cases h
    | some k1 =>
      rw [hs] at h
      have h1 := stepK_len hs
      have h2 := runK_len ps k1 k' h
      simp; omega
theorem lens_append (a b : List (List UInt8)) : lens (a ++ b) = lens a + lens b := by simp [lens]
theorem lens_last (k : List (List UInt8)) : lens k.dropLast ≤ lens k := by
  rcases List.eq_nil_or_concat k with rfl | ⟨k', x, rfl⟩
  · simp
  · rw [List.concat_eq_append, List.dropLast_concat, lens_append]; omega
theorem stepK_lens {k k' : List (List UInt8)} {x : List UInt8} (h : stepK k x = some k') : lens k' + k'.length ≤ lens k + k.length + x.length + 1 := by
  unfold stepK at h
  split at h
  · injection h with h; subst h; omega
  · split at h
    · split at h
      · cases h
      · injection h with h; subst h
        have := lens_last k
        simp; omega
    · injection h with h; subst h
      rw [lens_append]; simp [lens]; omega
theorem runK_lens : ∀ (pre k k' : List (List UInt8)), runK k pre = some k' → lens k' + k'.length ≤ lens k + k.length + lens pre + pre.length
  | [], k, k', h => by injection h with h; subst h; simp
  | p :: ps, k, k', h => by
    rw [runK] at h
    cases hs : stepK k p with
    | none => rw [hs] at h; cases h
    | some k1 =>
      rw [hs] at h
      have h1 := stepK_lens hs
      have h2 := runK_lens ps k1 k' h
      have h3 : lens (p :: ps) = p.length + lens ps := by simp [lens]
      rw [h3]; simp; omega
theorem kept_jn {t : List UInt8} {k : List (List UInt8)} (h : runK [] (parts t) = some k) : (jn k).length ≤ t.length := by
  have h1 := runK_lens _ _ _ h
  have h2 := jn_length (parts t) (parts_ne t)
  rw [jn_parts] at h2
  cases k with
  | nil => simp [jn]
  | cons k0 kr =>
    have h3 := jn_length (k0 :: kr) (by simp)
    simp [lens] at h1 h2 h3 ⊢
    omega
def keptOf (pre : List (List UInt8)) : List (List UInt8) := (runK [] pre).getD []
theorem keptOf_some {pre k : List (List UInt8)} (h : runK [] pre = some k) : keptOf pre = k := by simp [keptOf, h]
theorem keptOf_len (pre : List (List UInt8)) : (keptOf pre).length ≤ pre.length := by
  cases h : runK [] pre with
  | none => simp [keptOf, h]
  | some k => rw [keptOf_some h]; simpa using runK_len pre [] k h
theorem run_pass {pre k : List (List UInt8)} {x : List UInt8} (h : runK [] pre = some k) (hx : x.isEmpty = true ∨ (x == [46]) = true) : runK [] (pre ++ [x]) = some k := by
  rw [runK_snoc, h]
  show stepK k x = some k
  unfold stepK
  rw [if_pos]
  rcases hx with hx | hx <;> simp [isE, isD, hx]
theorem run_up {pre k : List (List UInt8)} {x : List UInt8} (h : runK [] pre = some k) (h1 : x.isEmpty = false) (h2 : (x == [46]) = false) (h3 : (x == [46, 46]) = true) : runK [] (pre ++ [x]) = if k = [] then none else some k.dropLast := by
  rw [runK_snoc, h]
  show stepK k x = _
  unfold stepK
  rw [if_neg (by simp [isE, isD, h1, h2]), if_pos (by simp [isU, h3])]
theorem run_keep {pre k : List (List UInt8)} {x : List UInt8} (h : runK [] pre = some k) (h1 : x.isEmpty = false) (h2 : (x == [46]) = false) (h3 : (x == [46, 46]) = false) : runK [] (pre ++ [x]) = some (k ++ [x]) := by
  rw [runK_snoc, h]
  show stepK k x = _
  unfold stepK
  rw [if_neg (by simp [isE, isD, h1, h2]), if_neg (by simp [isU, h3])]


/-! ### texts held against one another -/
theorem cb_self (a : List UInt8) : Lib.compareBytes a a = 0 := by
  induction a with
  | nil => rfl
  | cons x a ih =>
    have h := UInt8.lt_irrefl x
    rw [Lib.compareBytes, if_neg h, if_neg h, ih]
theorem cb_anti : ∀ (a b : List UInt8), Lib.compareBytes b a = - Lib.compareBytes a b
  | [], [] => rfl
  | [], _ :: _ => rfl
  | _ :: _, [] => rfl
  | x :: a, y :: b => by
    have ih := cb_anti a b
    rw [Lib.compareBytes, Lib.compareBytes]
    by_cases h1 : x < y
    · have h2 : ¬ y < x := UInt8.not_lt.2 (UInt8.le_of_lt h1)
      rw [if_neg h2, if_pos h1, if_pos h1]; rfl
    · by_cases h2 : y < x
      · rw [if_pos h2, if_neg h1, if_pos h2]
      · rw [if_neg h2, if_neg h1, if_neg h1, if_neg h2, ih]
theorem cb_zero : ∀ (a b : List UInt8), Lib.compareBytes a b = 0 → a = b
  | [], [], _ => rfl
  | [], _ :: _, h => by simp [Lib.compareBytes] at h
  | _ :: _, [], h => by simp [Lib.compareBytes] at h
  | x :: a, y :: b, h => by
    rw [Lib.compareBytes] at h
    split at h
    · simp at h
    · rename_i h1
      split at h
      · simp at h
      · rename_i h2
        have e : x = y := UInt8.le_antisymm (UInt8.not_lt.1 h2) (UInt8.not_lt.1 h1)
        rw [e, cb_zero a b h]
theorem cb_range : ∀ (a b : List UInt8), Lib.compareBytes a b = -1 ∨ Lib.compareBytes a b = 0 ∨ Lib.compareBytes a b = 1
  | [], [] => .inr (.inl rfl)
  | [], _ :: _ => .inl rfl
  | _ :: _, [] => .inr (.inr rfl)
  | x :: a, y :: b => by
    rw [Lib.compareBytes]
    split
    · exact .inl rfl
    · split
      · exact .inr (.inr rfl)
      · exact cb_range a b
theorem cb_trans : ∀ (a b c : List UInt8), Lib.compareBytes a b < 0 → Lib.compareBytes b c < 0 → Lib.compareBytes a c < 0
  | [], [], _, h, _ => by simp [Lib.compareBytes] at h
  | _, _ :: _, [], _, h => by simp [Lib.compareBytes] at h
  | _ :: _, [], _, h, _ => by simp [Lib.compareBytes] at h
  | [], _ :: _, _ :: _, _, _ => by simp [Lib.compareBytes]
  | x :: a, y :: b, z :: c, h1, h2 => by
    rw [Lib.compareBytes] at h1 h2 ⊢
    by_cases xy : x < y
    · by_cases yz : y < z
      · rw [if_pos (UInt8.lt_trans xy yz)]; decide
      · rw [if_neg yz] at h2
        by_cases zy : z < y
        · rw [if_pos zy] at h2; simp at h2
        · have e : y = z := UInt8.le_antisymm (UInt8.not_lt.1 zy) (UInt8.not_lt.1 yz)
          rw [← e, if_pos xy]; decide
    · rw [if_neg xy] at h1
      by_cases yx : y < x
      · rw [if_pos yx] at h1; simp at h1
      · have e : x = y := UInt8.le_antisymm (UInt8.not_lt.1 yx) (UInt8.not_lt.1 xy)
        subst e
        rw [if_neg yx] at h1
        by_cases yz : x < z
        · rw [if_pos yz]; decide
        · rw [if_neg yz] at h2 ⊢
          by_cases zy : z < x
          · rw [if_pos zy] at h2; simp at h2
          · rw [if_neg zy] at h2 ⊢
            exact cb_trans a b c h1 h2

/-! ### parts held against one another -/
theorem lex_self (a : List (List UInt8)) : lex a a = 0 := by
  induction a with
  | nil => rfl
  | cons x a ih => rw [lex, if_neg (by rw [cb_self]; simp), ih]
theorem lex_anti : ∀ (a b : List (List UInt8)), lex b a = - lex a b
  | [], [] => rfl
  | [], _ :: _ => rfl
  | _ :: _, [] => rfl
  | x :: a, y :: b => by
    have ih := lex_anti a b
    have h := cb_anti x y
    rw [lex, lex, h]
    by_cases hz : Lib.compareBytes x y = 0
    · rw [hz]; simpa using ih
    · rw [if_pos (by omega), if_pos hz]
theorem lex_zero : ∀ (a b : List (List UInt8)), lex a b = 0 → a = b
  | [], [], _ => rfl
  | [], _ :: _, h => by simp [lex] at h
  | _ :: _, [], h => by simp [lex] at h
  | x :: a, y :: b, h => by
    rw [lex] at h
    by_cases hz : Lib.compareBytes x y = 0
    · rw [if_neg (by rw [hz]; simp)] at h
      rw [cb_zero x y hz, lex_zero a b h]
    · rw [if_pos hz] at h
      exact absurd h hz
theorem lex_range : ∀ (a b : List (List UInt8)), lex a b = -1 ∨ lex a b = 0 ∨ lex a b = 1
  | [], [] => .inr (.inl rfl)
  | [], _ :: _ => .inl rfl
  | _ :: _, [] => .inr (.inr rfl)
  | x :: a, y :: b => by
    rw [lex]
    split
    · exact cb_range x y
    · exact lex_range a b
theorem lex_trans : ∀ (a b c : List (List UInt8)), lex a b < 0 → lex b c < 0 → lex a c < 0
  | [], [], _, h, _ => by simp [lex] at h
  | _, _ :: _, [], _, h => by simp [lex] at h
  | _ :: _, [], _, h, _ => by simp [lex] at h
  | [], _ :: _, _ :: _, _, _ => by simp [lex]
  | x :: a, y :: b, z :: c, h1, h2 => by
    rw [lex] at h1 h2 ⊢
    have rx := cb_range x y
    have ry := cb_range y z
    by_cases hxy : Lib.compareBytes x y = 0
    · rw [if_neg (by rw [hxy]; simp)] at h1
      have e := cb_zero x y hxy
      subst e
      by_cases hyz : Lib.compareBytes x z = 0
      · rw [if_neg (by rw [hyz]; simp)] at h2 ⊢
        exact lex_trans a b c h1 h2
      · rw [if_pos hyz] at h2 ⊢
        exact h2
    · rw [if_pos hxy] at h1
      by_cases hyz : Lib.compareBytes y z = 0
      · have e := cb_zero y z hyz
        subst e
        rw [if_pos hxy]; exact h1
      · rw [if_pos hyz] at h2
        have := cb_trans x y z h1 h2
        rw [if_pos (by omega)]
        exact this
theorem lex_longer (d x : List (List UInt8)) (hx : x ≠ []) : lex d (d ++ x) = -1 := by
  induction d with
  | nil =>
    cases x with
    | nil => exact absurd rfl hx
    | cons y ys => rfl
  | cons p d ih => rw [List.cons_append, lex, if_neg (by rw [cb_self]; simp), ih]
theorem lex_between : ∀ (d x y b : List (List UInt8)), x ≠ [] → lex (d ++ x) b ≤ 0 → lex b (d ++ y) ≤ 0 → ∃ z, z ≠ [] ∧ b = d ++ z
  | [], x, y, b, hx, h1, _ => by
    refine ⟨b, ?_, rfl⟩
    rintro rfl
    cases x with
    | nil => exact hx rfl
    | cons p ps => simp [lex] at h1
  | p :: d, x, y, [], hx, h1, _ => by simp [lex] at h1
  | p :: d, x, y, q :: b, hx, h1, h2 => by
    rw [List.cons_append, lex] at h1 h2
    have ha := cb_anti p q
    have hz : Lib.compareBytes p q = 0 := by
      by_cases hz : Lib.compareBytes p q = 0
      · exact hz
      · rw [if_pos hz] at h1
        rw [if_pos (by omega)] at h2
        omega
    rw [if_neg (by omega)] at h1 h2
    obtain ⟨z, hz', e⟩ := lex_between d x y b hx h1 h2
    exact ⟨z, hz', by rw [e, cb_zero p q hz]; rfl⟩
theorem cmpP_lex : ∀ (ps qs : List (List UInt8)), (∀ p ∈ ps, p ≠ []) → (∀ q ∈ qs, q ≠ [] ∧ 47 ∉ q) → cmpP ps (jn qs) = lex ps qs
  | [], [], _, _ => rfl
  | [], q :: qs, _, h => by
    have hq := (h q (by simp)).1
    cases q with
    | nil => exact absurd rfl hq
    | cons c q => rfl
  | p :: ps, [], h, _ => by
    have hp := h p (by simp)
    cases p with
    | nil => exact absurd rfl hp
    | cons c p => rfl
  | p :: ps, q :: qs, hp, hq => by
    have ih := cmpP_lex ps qs (fun x hx => hp x (by simp [hx])) (fun x hx => hq x (by simp [hx]))
    have hno := (hq q (by simp)).2
    have e : hd (jn (q :: qs)) = q ∧ tl (jn (q :: qs)) = jn qs := by
      cases qs with
      | nil =>
        have e0 : jn [q] = q := by simp [jn, tailJ]
        have hs : hasS q = false := by
          cases h : hasS q with
          | false => rfl
          | true => simp [hasS] at h; exact absurd h hno
        rw [e0]
        exact cut_not q hs
      | cons r rs =>
        have e0 : jn (q :: r :: rs) = q ++ 47 :: jn (r :: rs) := by simp [jn, tailJ]
        rw [e0]
        exact hd_tl_of q _ hno
    rw [cmpP, e.1, e.2, ih, lex]
    by_cases hz : Lib.compareBytes p q = 0
    · rw [if_pos hz, if_neg (by rw [hz]; simp)]
    · rw [if_neg hz, if_pos hz]

/-! ### what a clean name is -/
theorem name_parts {t : List UInt8} : nameB t = true ↔ t.length ≤ 96 ∧ ofName t = true ∧ (parts t).all okP = true := by
  simp [nameB, and_assoc]
theorem okP_ne {p : List UInt8} (h : okP p = true) : p.isEmpty = false ∧ (p == [46]) = false ∧ (p == [46, 46]) = false := by
  simp [okP, isE, isD, isU] at h
  obtain ⟨⟨h1, h2⟩, h3⟩ := h
  refine ⟨by simpa using h1, by simpa using h2, by simpa using h3⟩
theorem okP_ne' {p : List UInt8} (h : okP p = true) : p ≠ [] := by
  have := (okP_ne h).1
  rintro rfl
  cases this
theorem stepK_ok {k : List (List UInt8)} {p : List UInt8} (h : okP p = true) : stepK k p = some (k ++ [p]) := by
  obtain ⟨h1, h2, h3⟩ := okP_ne h
  unfold stepK
  rw [if_neg (by simp [isE, isD, h1, h2]), if_neg (by simp [isU, h3])]
theorem runK_ok : ∀ (ps k : List (List UInt8)), ps.all okP = true → runK k ps = some (k ++ ps)
  | [], k, _ => by simp [runK]
  | p :: ps, k, h => by
    rw [List.all_cons, Bool.and_eq_true] at h
    rw [runK, stepK_ok h.1]
    show runK (k ++ [p]) ps = _
    rw [runK_ok ps _ h.2]; simp
theorem runK_all : ∀ (ps k k' : List (List UInt8)), runK k ps = some k' → k.all okP = true → k'.all okP = true
  | [], k, k', h, hk => by injection h with h; rw [← h]; exact hk
  | p :: ps, k, k', h, hk => by
    rw [runK] at h
    cases hs : stepK k p with
    | none => rw [hs] at h; cases h
    | some k1 =>
      rw [hs] at h
      refine runK_all ps k1 k' h ?_
      unfold stepK at hs
      split at hs
      · injection hs with hs; rw [← hs]; exact hk
      · rename_i h1
        split at hs
        · split at hs
          · cases hs
          · injection hs with hs
            rw [← hs, List.all_eq_true]
            rw [List.all_eq_true] at hk
            exact fun x hx => hk x ((List.dropLast_sublist _).subset hx)
        · rename_i h3
          injection hs with hs
          rw [← hs, List.all_append, hk]
          simp at h1 h3
          simp [okP, h1, h3]
theorem runK_mem : ∀ (ps k k' : List (List UInt8)), runK k ps = some k' → ∀ x ∈ k', x ∈ k ∨ x ∈ ps
  | [], k, k', h, x, hx => by injection h with h; rw [← h] at hx; exact .inl hx
  | p :: ps, k, k', h, x, hx => by
    rw [runK] at h
    cases hs : stepK k p with
    | none => rw [hs] at h; cases h
    | some k1 =>
      rw [hs] at h
      rcases runK_mem ps k1 k' h x hx with h1 | h1
      · unfold stepK at hs
        split at hs
        · injection hs with hs; rw [← hs] at h1; exact .inl h1
        · split at hs
          · split at hs
            · cases hs
            · injection hs with hs
              rw [← hs] at h1
              exact .inl ((List.dropLast_sublist _).subset h1)
          · injection hs with hs
            rw [← hs] at h1
            rcases List.mem_append.1 h1 with h2 | h2
            · exact .inl h2
            · exact .inr (by simp at h2; simp [h2])
      · exact .inr (by simp [h1])
theorem ofName_append (a b : List UInt8) : ofName (a ++ b) = (ofName a && ofName b) := by simp [ofName]
theorem ofName_sl (b : List UInt8) : ofName (47 :: b) = ofName b := by simp [ofName, okC]
theorem ofName_tail (ps : List (List UInt8)) (h : ∀ p ∈ ps, ofName p = true) : ofName (tailJ ps) = true := by
  induction ps with
  | nil => rfl
  | cons p ps ih =>
    have e : tailJ (p :: ps) = 47 :: (p ++ tailJ ps) := by simp [tailJ]
    rw [e, ofName_sl, ofName_append, h p (by simp), ih (fun x hx => h x (by simp [hx]))]; rfl
theorem ofName_jn (ps : List (List UInt8)) (h : ∀ p ∈ ps, ofName p = true) : ofName (jn ps) = true := by
  cases ps with
  | nil => rfl
  | cons p ps => rw [jn, ofName_append, h p (by simp), ofName_tail ps (fun x hx => h x (by simp [hx]))]; rfl
theorem mem_tailJ {ps : List (List UInt8)} {p : List UInt8} (h : p ∈ ps) {c : UInt8} (hc : c ∈ p) : c ∈ tailJ ps := by
  induction ps with
  | nil => cases h
  | cons q ps ih =>
    rw [tailJ]
    rcases List.mem_cons.1 h with rfl | h
    · simp [hc]
    · simp [ih h]
theorem mem_jn {ps : List (List UInt8)} {p : List UInt8} (h : p ∈ ps) {c : UInt8} (hc : c ∈ p) : c ∈ jn ps := by
  cases ps with
  | nil => cases h
  | cons q ps =>
    rw [jn]
    rcases List.mem_cons.1 h with rfl | h
    · simp [hc]
    · simp [mem_tailJ h hc]
theorem ofName_part {t p : List UInt8} (ho : ofName t = true) (h : p ∈ parts t) : ofName p = true := by
  unfold ofName at *
  rw [List.all_eq_true] at *
  intro c hc
  have := mem_jn h hc
  rw [jn_parts] at this
  exact ho c this
theorem parts_mid (u v : List UInt8) : parts (u ++ 47 :: v) = parts u ++ parts v := by
  induction u with
  | nil => simp [parts]
  | cons c u ih =>
    rw [List.cons_append, parts, parts, ih]
    by_cases hc : c = 47
    · rw [if_pos hc, if_pos hc]; rfl
    · rw [if_neg hc, if_neg hc]
      cases hp : parts u with
      | nil => exact absurd hp (parts_ne u)
      | cons p ps => rfl
theorem parts_inj {a b : List UInt8} (h : parts a = parts b) : a = b := by rw [← jn_parts a, h, jn_parts]

/-- What is kept of a text of clean octets is a clean name. -/
theorem kept_name {t : List UInt8} {k : List (List UInt8)} (h96 : t.length ≤ 96) (ho : ofName t = true) (h : runK [] (parts t) = some k) (hk : k ≠ []) : nameB (jn k) = true ∧ parts (jn k) = k := by
  have hm : ∀ x ∈ k, x ∈ parts t := fun x hx => by
    rcases runK_mem _ _ _ h x hx with h1 | h1
    · cases h1
    · exact h1
  have hp : parts (jn k) = k := parts_jn k hk (fun x hx => parts_no t x (hm x hx))
  refine ⟨name_parts.2 ⟨Nat.le_trans (kept_jn h) h96, ofName_jn k (fun x hx => ofName_part ho (hm x hx)), ?_⟩, hp⟩
  rw [hp]
  exact runK_all _ _ _ h rfl
theorem cleanF_ok {t : List UInt8} (h : (cleanF t).2 = 0) : t.length ≤ 96 ∧ ofName t = true ∧ ∃ k, k ≠ [] ∧ runK [] (parts t) = some k ∧ (cleanF t).1 = jn k := by
  unfold cleanF at h ⊢
  by_cases h1 : 96 < t.length
  · rw [if_pos h1] at h; cases h
  · rw [if_neg h1] at h ⊢
    cases h2 : ofName t with
    | false => rw [if_pos h2] at h; cases h
    | true =>
      rw [h2, if_neg (by simp)] at h
      rw [if_neg (by simp)]
      refine ⟨by omega, rfl, ?_⟩
      cases h3 : runK [] (parts t) with
      | none => rw [h3] at h; cases h
      | some k =>
        rw [h3] at h
        unfold endK at h ⊢
        by_cases h4 : k = []
        · simp [h4] at h
        · exact ⟨k, h4, rfl, by simp [h4]⟩
theorem cleanF_of {t : List UInt8} {k : List (List UInt8)} (h1 : t.length ≤ 96) (h2 : ofName t = true) (h3 : runK [] (parts t) = some k) (h4 : k ≠ []) : cleanF t = (jn k, 0) := by
  unfold cleanF
  rw [if_neg (by omega), if_neg (by rw [h2]; simp), h3]
  simp [endK, h4]
theorem cleanF_name {t : List UInt8} (h : nameB t = true) : cleanF t = (t, 0) := by
  obtain ⟨h1, h2, h3⟩ := name_parts.1 h
  have := runK_ok (parts t) [] h3
  rw [List.nil_append] at this
  rw [cleanF_of h1 h2 this (parts_ne t), jn_parts]
theorem cleanF_err {t : List UInt8} (h : (cleanF t).2 ≠ 0) : (cleanF t).1 = [] := by
  unfold cleanF at h ⊢
  split
  · rfl
  · rename_i h1
    rw [if_neg h1] at h
    split
    · rfl
    · rename_i h2
      rw [if_neg h2] at h
      cases h3 : runK [] (parts t) with
      | none => rfl
      | some k =>
        rw [h3] at h
        unfold endK at h ⊢
        by_cases h4 : k = []
        · simp [h4]
        · simp [h4] at h
/-- NameClean's words. -/
theorem clean_facts (t : List UInt8) (h : (cleanF t).2 = 0) : nameB (cleanF t).1 = true ∧ cleanF (cleanF t).1 = ((cleanF t).1, 0) ∧ (cleanF t).1.length ≤ t.length := by
  obtain ⟨h1, h2, k, hk, hr, e⟩ := cleanF_ok h
  have hn := (kept_name h1 h2 hr hk).1
  rw [e]
  exact ⟨hn, cleanF_name hn, kept_jn hr⟩
theorem clean_iff (t : List UInt8) : nameB t = true ↔ (cleanF t).2 = 0 ∧ (cleanF t).1 = t := by
  constructor
  · intro h; rw [cleanF_name h]; exact ⟨rfl, rfl⟩
  · rintro ⟨h, e⟩
    have := (clean_facts t h).1
    rwa [e] at this

/-! ### within -/
theorem folder_cases {d : List UInt8} (h : folderB d = true) : d = [] ∨ nameB d = true := by
  simp [folderB, isE] at h
  exact h
theorem name_ne {p : List UInt8} (h : nameB p = true) : p ≠ [] := by rintro rfl; revert h; decide
theorem within_parts (d p : List UInt8) : (d ++ [47]).isPrefixOf p = true ↔ ∃ qs, qs ≠ [] ∧ parts p = parts d ++ qs := by
  rw [List.isPrefixOf_iff_prefix]
  constructor
  · rintro ⟨v, rfl⟩
    refine ⟨parts v, parts_ne v, ?_⟩
    rw [List.append_assoc]
    exact parts_mid d v
  · rintro ⟨qs, hq, e⟩
    cases qs with
    | nil => exact absurd rfl hq
    | cons q qs =>
      refine ⟨q ++ tailJ qs, ?_⟩
      have := congrArg jn e
      rw [jn_parts, jn_append _ _ (parts_ne d), jn_parts] at this
      rw [this, tailJ]; simp
theorem withinB_iff {d p : List UInt8} (hd : d ≠ []) : withinB d p = true ↔ ∃ qs, qs ≠ [] ∧ parts p = parts d ++ qs := by
  have : isE d = false := by simp [isE, hd]
  unfold withinB
  rw [this, Bool.false_or]
  exact within_parts d p
theorem withinB_nil (p : List UInt8) : withinB [] p = true := rfl
theorem folder_nil : folderB [] = true := rfl
theorem folder_name {d : List UInt8} (h : nameB d = true) : folderB d = true := by simp [folderB, h]

theorem cmpP_names {a b : List UInt8} (ha : nameB a = true) (hb : nameB b = true) : cmpP (parts a) b = lex (parts a) (parts b) := by
  have h := cmpP_lex (parts a) (parts b) (fun p hp => okP_ne' (List.all_eq_true.1 (name_parts.1 ha).2.2 p hp)) (fun q hq => ⟨okP_ne' (List.all_eq_true.1 (name_parts.1 hb).2.2 q hq), parts_no b q hq⟩)
  rwa [jn_parts] at h
theorem cmpF_no {a b : List UInt8} (h : nameB a = false ∨ nameB b = false) : cmpF a b = (0, 1) := by unfold cmpF; rw [if_pos h]
theorem cmpF_yes {a b : List UInt8} (ha : nameB a = true) (hb : nameB b = true) : cmpF a b = (lex (parts a) (parts b), 0) := by
  unfold cmpF; rw [if_neg (by rw [ha, hb]; simp)]
theorem lex_eq {a b : List UInt8} : lex (parts a) (parts b) = 0 ↔ a = b :=
  ⟨fun h => parts_inj (lex_zero _ _ h), fun h => by rw [h, lex_self]⟩
theorem withinF_no {d p : List UInt8} (h : folderB d = false ∨ nameB p = false) : withinF d p = (false, 1) := by unfold withinF; rw [if_pos h]
theorem withinF_yes {d p : List UInt8} (h1 : folderB d = true) (h2 : nameB p = true) : withinF d p = (withinB d p, 0) := by unfold withinF; rw [if_neg (by rw [h1, h2]; simp)]
theorem between {d a b c : List UInt8} (hx : withinB d a = true) (hz : withinB d c = true) (h1 : lex (parts a) (parts b) ≤ 0) (h2 : lex (parts b) (parts c) ≤ 0) : withinB d b = true := by
  by_cases hd : d = []
  · subst hd; rfl
  · obtain ⟨x, hx, ex⟩ := (withinB_iff hd).1 hx
    obtain ⟨z, hz, ez⟩ := (withinB_iff hd).1 hz
    rw [ex] at h1
    rw [ez] at h2
    exact (withinB_iff hd).2 (lex_between _ _ _ _ hx h1 h2)
theorem ahead {d a : List UInt8} (hd : d ≠ []) (hx : withinB d a = true) : lex (parts d) (parts a) = -1 := by
  obtain ⟨x, hx, ex⟩ := (withinB_iff hd).1 hx
  rw [ex]
  exact lex_longer _ _ hx
end Go.Proofs.Ytnjepbehfioclaa
