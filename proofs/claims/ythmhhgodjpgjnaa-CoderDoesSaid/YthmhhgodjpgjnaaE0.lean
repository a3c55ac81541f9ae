namespace Go.Proofs.Ythmhhgodjpgjnaa

/-- A bit, and whose. -/
structure Bit where
  at_ : Int
  b : Bool

/-- Is it a chance? -/
def isC (p : Int) : Bool := decide (31 ≤ p) && decide (p ≤ 2017)
/-- A chance behind a bit. -/
def lrn (p : Int) (b : Bool) : Int := if b then p - p / 32 else p + (2048 - p) / 32
theorem isC_iff {p : Int} : isC p = true ↔ 31 ≤ p ∧ p ≤ 2017 := by simp [isC]
theorem lrn_ok {p : Int} (b : Bool) (h : isC p = true) : isC (lrn p b) = true := by
  rw [isC_iff] at *
  cases b <;> simp [lrn] <;> omega
theorem lrn_up {p : Int} (h : isC p = true) : p ≤ lrn p false := by rw [isC_iff] at h; simp [lrn]; omega
theorem lrn_down {p : Int} (h : isC p = true) : lrn p true ≤ p := by rw [isC_iff] at h; simp [lrn]; omega

/-- A chance behind the same bit, again and again. -/
def itL (b : Bool) : Nat → Int → Int
  | 0, p => p
  | n + 1, p => itL b n (lrn p b)
theorem itL_succ (b : Bool) (n : Nat) (p : Int) : itL b (n + 1) p = lrn (itL b n p) b := by
  induction n generalizing p with
  | zero => rfl
  | succ n ih => rw [itL, ih]; rfl
theorem itL_ok (b : Bool) (n : Nat) {p : Int} (h : isC p = true) : isC (itL b n p) = true := by
  induction n generalizing p with
  | zero => exact h
  | succ n ih => exact ih (lrn_ok b h)
theorem lrn_mono {p q : Int} (h : p ≤ q) : lrn p true ≤ lrn q true := by simp [lrn]; omega
theorem itL_mono (n : Nat) {p q : Int} (h : p ≤ q) : itL true n p ≤ itL true n q := by
  induction n generalizing p q with
  | zero => exact h
  | succ n ih => exact ih (lrn_mono h)
theorem itL_flip (n : Nat) (p : Int) : itL false n (2048 - p) = 2048 - itL true n p := by
  induction n generalizing p with
  | zero => rfl
  | succ n ih =>
    have : lrn (2048 - p) false = 2048 - lrn p true := by simp [lrn]; omega
    rw [itL, this, ih, itL]
theorem itL_top : itL true 400 2017 = 31 := by decide +kernel
theorem itL_end_true {p : Int} (h : isC p = true) : itL true 400 p = 31 := by
  have h1 := isC_iff.1 (itL_ok true 400 h)
  have h2 := itL_mono 400 (isC_iff.1 h).2
  rw [itL_top] at h2
  omega
theorem itL_end_false {p : Int} (h : isC p = true) : itL false 400 p = 2017 := by
  have h1 : isC (2048 - p) = true := by rw [isC_iff] at *; omega
  have h2 := itL_flip 400 (2048 - p)
  rw [itL_end_true h1, show 2048 - (2048 - p) = p by omega] at h2
  omega

/-- May they be chances? -/
def okC (l : List Int) : Bool := decide (l.length ≤ 1024) && l.all isC
/-- Is the bit by one of so many? -/
def inB (n : Nat) (x : Bit) : Bool := decide (0 ≤ x.at_) && decide (x.at_ < n)
def stepA (l : List Int) (x : Bit) : List Int := l.set x.at_.toNat (lrn (l.getD x.at_.toNat 0) x.b)
def allF (l : List Int) (bs : List Bit) : List Int := bs.foldl stepA l
/-- What All answers. -/
def allR (l : List Int) (bs : List Bit) : List Int × Int := if okC l = false then ([], 1) else if bs.all (inB l.length) = false then ([], 4) else (allF l bs, 0)

theorem okC_iff {l : List Int} : okC l = true ↔ l.length ≤ 1024 ∧ ∀ p ∈ l, isC p = true := by simp [okC]
theorem inB_iff {n : Nat} {x : Bit} : inB n x = true ↔ 0 ≤ x.at_ ∧ x.at_ < n := by simp [inB]
theorem stepA_len (l : List Int) (x : Bit) : (stepA l x).length = l.length := by simp [stepA]
theorem allF_len (l : List Int) (bs : List Bit) : (allF l bs).length = l.length := by
  induction bs generalizing l with
  | nil => rfl
  | cons x r ih => exact (ih (stepA l x)).trans (stepA_len l x)
theorem stepA_ok {l : List Int} {x : Bit} (h : okC l = true) : okC (stepA l x) = true := by
  rw [okC_iff] at *
  refine ⟨by rw [stepA_len]; exact h.1, fun p hp => ?_⟩
  by_cases hi : x.at_.toNat < l.length
  · rcases List.mem_or_eq_of_mem_set hp with h1 | h1
    · exact h.2 p h1
    · rw [h1]
      refine lrn_ok _ (h.2 _ ?_)
      rw [List.getD_eq_getElem?_getD, List.getElem?_eq_getElem hi]
      exact List.getElem_mem _
  · unfold stepA at hp
    rw [List.set_eq_of_length_le (by omega)] at hp
    exact h.2 p hp
theorem allF_ok {l : List Int} {bs : List Bit} (h : okC l = true) : okC (allF l bs) = true := by
  induction bs generalizing l with
  | nil => exact h
  | cons x r ih => exact ih (stepA_ok h)
theorem allF_append (l : List Int) (a b : List Bit) : allF l (a ++ b) = allF (allF l a) b := by simp [allF]
theorem allF_snoc (l : List Int) {bs : List Bit} {k : Nat} (h : k < bs.length) : allF l (bs.take (k + 1)) = stepA (allF l (bs.take k)) bs[k] := by
  rw [List.take_succ_eq_append_getElem h, allF_append]; rfl
/-- What one of them learns. -/
def oneF (at_ p : Int) (bs : List Bit) : Int := bs.foldl (fun p x => if x.at_ = at_ then lrn p x.b else p) p
theorem oneF_snoc (i p : Int) {bs : List Bit} {k : Nat} (h : k < bs.length) : oneF i p (bs.take (k + 1)) = if bs[k].at_ = i then lrn (oneF i p (bs.take k)) bs[k].b else oneF i p (bs.take k) := by
  rw [List.take_succ_eq_append_getElem h]; unfold oneF; rw [List.foldl_append]; rfl
theorem oneF_ok (i : Int) {p : Int} (bs : List Bit) (h : isC p = true) : isC (oneF i p bs) = true := by
  induction bs generalizing p with
  | nil => exact h
  | cons x r ih =>
    unfold oneF
    rw [List.foldl_cons]
    split
    · exact ih (lrn_ok _ h)
    · exact ih h
theorem allF_at {l : List Int} {bs : List Bit} {i : Int} (h0 : 0 ≤ i) (h1 : i < l.length) (hb : ∀ x ∈ bs, inB l.length x = true) : (allF l bs).getD i.toNat 0 = oneF i (l.getD i.toNat 0) bs := by
  induction bs generalizing l with
  | nil => rfl
  | cons x r ih =>
    have hx := inB_iff.1 (hb x (by simp))
    have h2 := ih (l := stepA l x) (by rw [stepA_len]; exact h1) (fun y hy => by rw [stepA_len]; exact hb y (by simp [hy]))
    unfold allF at *
    rw [List.foldl_cons, h2]
    unfold oneF
    rw [List.foldl_cons]
    congr 1
    unfold stepA
    rw [List.getD_eq_getElem?_getD, List.getElem?_set]
    by_cases e : x.at_ = i
    · subst e
      simp [show x.at_.toNat < l.length by omega]
    · have : ¬ x.at_.toNat = i.toNat := by omega
      simp [this, e]
end Go.Proofs.Ythmhhgodjpgjnaa
