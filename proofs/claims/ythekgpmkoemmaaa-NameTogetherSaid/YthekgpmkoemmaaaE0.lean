import Derived.Lib.Strings
import Derived.Lib.Bytealg
namespace Go.Proofs.Ythekgpmkoemmaaa

/-- What is between slashes. -/
def parts : List UInt8 → List (List UInt8)
  | [] => [[]]
  | c :: l => if c = 47 then [] :: parts l else
    match parts l with
    | [] => [[c]]
    | p :: ps => (c :: p) :: ps
/-- Parts, a slash between. -/
def tailJ : List (List UInt8) → List UInt8
  | [] => []
  | p :: ps => 47 :: p ++ tailJ ps
def jn : List (List UInt8) → List UInt8
  | [] => []
  | p :: ps => p ++ tailJ ps

theorem parts_ne (l : List UInt8) : parts l ≠ [] := by
  cases l with
  | nil => simp [parts]
  | cons c l =>
    unfold parts
    split
    · simp
    · split <;> simp
theorem parts_noslash (u : List UInt8) (h : 47 ∉ u) : parts u = [u] := by
  induction u with
  | nil => rfl
  | cons c l ih =>
    have h1 : c ≠ 47 := fun e => h (by simp [e])
    have h2 : 47 ∉ l := fun e => h (by simp [e])
    unfold parts
    rw [if_neg h1, ih h2]
theorem parts_slash (u v : List UInt8) (h : 47 ∉ u) : parts (u ++ 47 :: v) = u :: parts v := by
  induction u with
  | nil => simp [parts]
  | cons c l ih =>
    have h1 : c ≠ 47 := fun e => h (by simp [e])
    have h2 : 47 ∉ l := fun e => h (by simp [e])
    rw [List.cons_append, parts, if_neg h1, ih h2]
theorem parts_no (l : List UInt8) : ∀ p ∈ parts l, 47 ∉ p := by
  induction l with
  | nil => simp [parts]
  | cons c l ih =>
    unfold parts
    split
    · intro p hp
      rcases List.mem_cons.1 hp with rfl | hp
      · simp
      · exact ih p hp
    · rename_i hc
      cases hq : parts l with
      | nil => exact absurd hq (parts_ne l)
      | cons q qs =>
        rw [hq] at ih
        intro p hp
        rcases List.mem_cons.1 hp with rfl | hp
        · have := ih q (by simp)
          simp only [List.mem_cons, not_or]
          exact ⟨fun e => hc e.symm, this⟩
        · exact ih p (by simp [hp])
theorem jn_parts (l : List UInt8) : jn (parts l) = l := by
  induction l with
  | nil => rfl
  | cons c l ih =>
    unfold parts
    cases hq : parts l with
    | nil => exact absurd hq (parts_ne l)
    | cons q qs =>
      rw [hq] at ih
      by_cases hc : c = 47
      · simp only [hc, if_true]
        simpa [jn, tailJ] using ih
      · simp only [hc, if_false]
        simpa [jn] using ih
theorem parts_jn : ∀ (ps : List (List UInt8)), ps ≠ [] → (∀ p ∈ ps, 47 ∉ p) → parts (jn ps) = ps
  | [], h, _ => absurd rfl h
  | [p], _, h => by simpa [jn, tailJ] using parts_noslash p (h p (by simp))
  | p :: q :: qs, _, h => by
    have ih := parts_jn (q :: qs) (by simp) (fun x hx => h x (by simp [hx]))
    have e : jn (p :: q :: qs) = p ++ 47 :: jn (q :: qs) := by simp [jn, tailJ]
    rw [e, parts_slash _ _ (h p (by simp)), ih]
theorem tailJ_append (ps qs : List (List UInt8)) : tailJ (ps ++ qs) = tailJ ps ++ tailJ qs := by
  induction ps with
  | nil => rfl
  | cons p ps ih => simp [tailJ, ih]
theorem jn_append (ps qs : List (List UInt8)) (h : ps ≠ []) : jn (ps ++ qs) = jn ps ++ tailJ qs := by
  cases ps with
  | nil => exact absurd rfl h
  | cons p ps => simp [jn, tailJ_append]
theorem jn_snoc (ps : List (List UInt8)) (p : List UInt8) (h : ps ≠ []) : jn (ps ++ [p]) = jn ps ++ 47 :: p := by
  rw [jn_append _ _ h]; simp [tailJ]
/-- A text, and its length, of parts. -/
def lens (ps : List (List UInt8)) : Nat := (ps.map List.length).sum
theorem tailJ_length (ps : List (List UInt8)) : (tailJ ps).length = ps.length + lens ps := by
  induction ps with
  | nil => rfl
  | cons p ps ih => simp [tailJ, lens] at ih ⊢; omega
theorem jn_length (ps : List (List UInt8)) (h : ps ≠ []) : (jn ps).length + 1 = ps.length + lens ps := by
  cases ps with
  | nil => exact absurd rfl h
  | cons p ps => simp [jn, tailJ_length, lens]; omega

/-! ### cut at a slash -/
def hd (l : List UInt8) : List UInt8 := l.takeWhile (fun c => c != 47)
def hasS (l : List UInt8) : Bool := l.contains 47
def tl (l : List UInt8) : List UInt8 := (l.dropWhile (fun c => c != 47)).drop 1
theorem take_no (l : List UInt8) : 47 ∉ l.takeWhile (fun c => c != 47) := by
  induction l with
  | nil => simp
  | cons c l ih =>
    rw [List.takeWhile_cons]
    split
    · rename_i h
      simp at h
      simp only [List.mem_cons, not_or]
      exact ⟨fun e => h e.symm, ih⟩
    · simp
theorem hd_no (l : List UInt8) : 47 ∉ hd l := take_no l
theorem cut_has : ∀ (l : List UInt8), hasS l = true → l = hd l ++ 47 :: tl l
  | [], h => by simp [hasS] at h
  | c :: l, h => by
    by_cases hc : c = 47
    · subst hc; simp [hd, tl]
    · have h' : hasS l = true := by
        simp [hasS] at h ⊢
        exact h.resolve_left (fun e => hc e.symm)
      have ih := cut_has l h'
      have e1 : hd (c :: l) = c :: hd l := by simp [hd, hc]
      have e2 : tl (c :: l) = tl l := by simp [tl, hc]
      rw [e1, e2, List.cons_append, ← ih]
theorem cut_not : ∀ (l : List UInt8), hasS l = false → hd l = l ∧ tl l = []
  | [], _ => by simp [hd, tl]
  | c :: l, h => by
    have h' : ¬ c = 47 ∧ hasS l = false := by
      simp [hasS] at h ⊢
      exact ⟨fun e => h.1 e.symm, h.2⟩
    have ih := cut_not l h'.2
    have e1 : hd (c :: l) = c :: hd l := by simp [hd, h'.1]
    have e2 : tl (c :: l) = tl l := by simp [tl, h'.1]
    rw [e1, e2]
    exact ⟨by rw [ih.1], ih.2⟩
theorem no_of_not (l : List UInt8) (h : hasS l = false) : 47 ∉ l := by
  simpa [hasS] using h
theorem parts_has (l : List UInt8) (h : hasS l = true) : parts l = hd l :: parts (tl l) := by
  conv => lhs; rw [cut_has l h]
  exact parts_slash _ _ (hd_no l)
theorem parts_not (l : List UInt8) (h : hasS l = false) : parts l = [hd l] := by
  rw [parts_noslash l (no_of_not l h), (cut_not l h).1]
theorem has_of_mem (u v : List UInt8) : hasS (u ++ 47 :: v) = true := by simp [hasS]
theorem hd_tl_of (u v : List UInt8) (h : 47 ∉ u) : hd (u ++ 47 :: v) = u ∧ tl (u ++ 47 :: v) = v := by
  induction u with
  | nil => simp [hd, tl]
  | cons c l ih =>
    have h1 : c ≠ 47 := fun e => h (by simp [e])
    have h2 : 47 ∉ l := fun e => h (by simp [e])
    have e1 : hd (c :: (l ++ 47 :: v)) = c :: hd (l ++ 47 :: v) := by simp [hd, h1]
    have e2 : tl (c :: (l ++ 47 :: v)) = tl (l ++ 47 :: v) := by simp [tl, h1]
    rw [List.cons_append, e1, e2, (ih h2).1, (ih h2).2]
    exact ⟨rfl, rfl⟩

/-! ### what a name is -/
def okC (c : UInt8) : Bool := decide (33 ≤ c.toNat) && decide (c.toNat ≤ 126)
def ofName (l : List UInt8) : Bool := l.all okC
def isE (p : List UInt8) : Bool := p.isEmpty
def isD (p : List UInt8) : Bool := p == [46]
def isU (p : List UInt8) : Bool := p == [46, 46]
def okP (p : List UInt8) : Bool := !isE p && !isD p && !isU p
def nameB (l : List UInt8) : Bool := decide (l.length ≤ 96) && ofName l && (parts l).all okP
def folderB (l : List UInt8) : Bool := isE l || nameB l

/-! ### cleaning -/
def stepK (k : List (List UInt8)) (p : List UInt8) : Option (List (List UInt8)) :=
  if isE p || isD p then some k else if isU p then (if k = [] then none else some k.dropLast) else some (k ++ [p])
def runK : List (List UInt8) → List (List UInt8) → Option (List (List UInt8))
  | k, [] => some k
  | k, p :: ps => (stepK k p).bind (fun k' => runK k' ps)
def endK : Option (List (List UInt8)) → List UInt8 × Int
  | none => ([], 4)
  | some k => if k = [] then ([], 1) else (jn k, 0)
def cleanF (l : List UInt8) : List UInt8 × Int :=
  if 96 < l.length then ([], 3) else if ofName l = false then ([], 2) else endK (runK [] (parts l))
def joinF (d l : List UInt8) : List UInt8 × Int := if folderB d = false then ([], 1) else cleanF (d ++ 47 :: l)
def splitF (p : List UInt8) : List UInt8 × List UInt8 × Int :=
  if nameB p = false then ([], [], 1) else (jn (parts p).dropLast, (parts p).getLastD [], 0)
def withinB (d p : List UInt8) : Bool := isE d || (d ++ [47]).isPrefixOf p
def withinF (d p : List UInt8) : Bool × Int := if folderB d = false ∨ nameB p = false then (false, 1) else (withinB d p, 0)
def lex : List (List UInt8) → List (List UInt8) → Int
  | [], [] => 0
  | [], _ :: _ => -1
  | _ :: _, [] => 1
  | p :: ps, q :: qs => if Lib.compareBytes p q ≠ 0 then Lib.compareBytes p q else lex ps qs
def cmpF (a b : List UInt8) : Int × Int := if nameB a = false ∨ nameB b = false then (0, 1) else (lex (parts a) (parts b), 0)
end Go.Proofs.Ythekgpmkoemmaaa
