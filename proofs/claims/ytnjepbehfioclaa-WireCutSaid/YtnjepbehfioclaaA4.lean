import Derived.Test.YtnjepbehfioclaaA3
namespace Go.Proofs.Ytnjepbehfioclaa

/-! ### numbers as octets, the lowest first -/
def putN : Nat → Nat → List UInt8
  | 0, _ => []
  | k + 1, v => UInt8.ofNat v :: putN k (v / 256)
def numN : List UInt8 → Nat
  | [] => 0
  | c :: l => c.toNat + 256 * numN l

theorem putN_len (k v : Nat) : (putN k v).length = k := by
  induction k generalizing v with
  | zero => rfl
  | succ k ih => simp [putN, ih]
theorem numN_lt (l : List UInt8) : numN l < 256 ^ l.length := by
  induction l with
  | nil => simp [numN]
  | cons c l ih =>
    have := c.toNat_lt
    simp only [numN, List.length_cons, Nat.pow_succ]
    omega
theorem ofNat_toNat' (v : Nat) : (UInt8.ofNat v).toNat = v % 256 := by simp
theorem num_put (k v : Nat) (h : v < 256 ^ k) : numN (putN k v) = v := by
  induction k generalizing v with
  | zero => simp at h; subst h; rfl
  | succ k ih =>
    have h2 : v / 256 < 256 ^ k := by rw [Nat.pow_succ] at h; exact Nat.div_lt_of_lt_mul (by rw [Nat.mul_comm]; exact h)
    simp only [putN, numN]
    rw [ih _ h2, ofNat_toNat']
    omega
theorem put_num (l : List UInt8) : putN l.length (numN l) = l := by
  induction l with
  | nil => rfl
  | cons c l ih =>
    have hc := c.toNat_lt
    have e1 : (c.toNat + 256 * numN l) / 256 = numN l := by omega
    have e2 : UInt8.ofNat (c.toNat + 256 * numN l) = c := by
      apply UInt8.toNat_inj.1
      rw [ofNat_toNat']
      omega
    simp only [List.length_cons, putN, numN, e1, e2, ih]
theorem put_num' {l : List UInt8} {k : Nat} (h : l.length = k) : putN k (numN l) = l := by subst h; exact put_num l
theorem num_snoc (l : List UInt8) (c : UInt8) : numN (l ++ [c]) = numN l + c.toNat * 256 ^ l.length := by
  induction l with
  | nil => simp [numN]
  | cons d l ih =>
    simp only [List.cons_append, numN, ih, List.length_cons, Nat.pow_succ]
    rw [Nat.mul_add, ← Nat.add_assoc, Nat.mul_comm (256 ^ l.length) 256, Nat.mul_left_comm]
theorem put_inj {k v u : Nat} (hv : v < 256 ^ k) (hu : u < 256 ^ k) (h : putN k v = putN k u) : v = u := by rw [← num_put k v hv, h, num_put k u hu]
theorem put_snoc (k v : Nat) : putN (k + 1) v = putN k v ++ [UInt8.ofNat (v / 256 ^ k)] := by
  induction k generalizing v with
  | zero => simp [putN]
  | succ k ih =>
    rw [putN, ih, putN, List.cons_append, Nat.div_div_eq_div_mul, ← Nat.pow_succ']
theorem put_take (k j v : Nat) (h : j ≤ k) : (putN k v).take j = putN j v := by
  induction k generalizing j v with
  | zero => obtain rfl : j = 0 := by omega
            rfl
  | succ k ih =>
    cases j with
    | zero => rfl
    | succ j => simp only [putN, List.take_succ_cons]; rw [ih j _ (by omega)]

/-! ### a file's text, a table's text -/
def numsT (f : Fl) : List UInt8 := putN 8 (keyF f.rk) ++ (putN 4 f.sm.toNat ++ (putN 2 f.bk.toNat ++ (putN 3 f.fr.toNat ++ putN 3 f.ln.toNat)))
def fileT (f : Fl) : List UInt8 := putN 1 f.nm.length ++ (f.nm ++ numsT f)
def filesT (l : List Fl) : List UInt8 := l.flatMap fileT
def tabT (l : List Fl) : List UInt8 := putN 2 l.length ++ filesT l
theorem nums_len (f : Fl) : (numsT f).length = 20 := by simp [numsT, putN_len]
theorem file_len (f : Fl) : (fileT f).length = 21 + f.nm.length := by simp [fileT, nums_len, putN_len]; omega
theorem files_nil : filesT [] = [] := rfl
theorem files_cons (f : Fl) (l : List Fl) : filesT (f :: l) = fileT f ++ filesT l := by simp [filesT]
theorem files_snoc (l : List Fl) (f : Fl) : filesT (l ++ [f]) = filesT l ++ fileT f := by simp [filesT]

/-- The sum's number is one of 32 bits. -/
def U32F (f : Fl) : Prop := 0 ≤ f.sm ∧ f.sm < 4294967296
def SmU (l : List Fl) : Prop := ∀ f ∈ l, U32F f
/-- How long a table's text is. -/
def longT (l : List Fl) : Nat := (l.map (fun f => 21 + f.nm.length)).sum
theorem long_cons (f : Fl) (l : List Fl) : longT (f :: l) = 21 + f.nm.length + longT l := by simp [longT]
theorem long_snoc (l : List Fl) (f : Fl) : longT (l ++ [f]) = longT l + (21 + f.nm.length) := by simp [longT]
theorem files_len (l : List Fl) : (filesT l).length = longT l := by
  induction l with
  | nil => rfl
  | cons f l ih => rw [files_cons, List.length_append, file_len, ih, long_cons]
theorem tab_len' (l : List Fl) : (tabT l).length = 2 + longT l := by rw [tabT, List.length_append, putN_len, files_len]
theorem nm_96 {f : Fl} (h : okF f = true) : f.nm.length ≤ 96 := (name_parts.1 (ok_name h)).1
theorem ok_nums {f : Fl} (h : okF f = true) : 0 ≤ f.bk ∧ f.bk ≤ 8192 ∧ 0 ≤ f.fr ∧ f.fr ≤ 65536 ∧ 0 ≤ f.ln ∧ f.ln ≤ 65536 := by
  unfold okF upB at h
  simp at h
  omega
theorem long_le (l : List Fl) (h : ∀ f ∈ l, okF f = true) : longT l ≤ 117 * l.length := by
  induction l with
  | nil => simp [longT]
  | cons f l ih =>
    have h1 := nm_96 (h f (by simp))
    have h2 := ih (fun g hg => h g (by simp [hg]))
    rw [long_cons, List.length_cons]
    omega
theorem tab_short {l : List Fl} (h : tabB l = true) : (tabT l).length ≤ 29954 := by
  have h1 := long_le l (fun f hf => tab_ok h hf)
  have h2 := tab_len h
  rw [tab_len']
  omega

/-! ### what octets tell -/
/-- The file with which octets begin, and what is behind it. -/
def fileR (b : List UInt8) : Option (Fl × List UInt8) :=
  match b with
  | [] => none
  | n :: r =>
    if r.length < n.toNat + 20 then none else
    let q := r.drop n.toNat
    let k := numN (q.take 8)
    if ofE k = 0 then some (⟨r.take n.toNat, ofF k, (numN ((q.drop 8).take 4) : Nat), (numN ((q.drop 12).take 2) : Nat), (numN ((q.drop 14).take 3) : Nat), (numN ((q.drop 17).take 3) : Nat)⟩, q.drop 20)
    else none
/-- So many files. -/
def filesR : Nat → List UInt8 → Option (List Fl × List UInt8)
  | 0, b => some ([], b)
  | n + 1, b =>
    match fileR b with
    | none => none
    | some (f, r) =>
      match filesR n r with
      | none => none
      | some (l, r') => some (f :: l, r')
/-- A table. -/
def tabR (b : List UInt8) : Option (List Fl) :=
  if b.length < 2 then none else
  match filesR (numN (b.take 2)) (b.drop 2) with
  | none => none
  | some (l, r) => if r = [] ∧ tabB l = true then some l else none
/-- As far as the octets go. -/
def allR : Nat → List UInt8 → Option (List Fl)
  | 0, b => if b = [] then some [] else none
  | n + 1, b =>
    if b = [] then some [] else
    match fileR b with
    | none => none
    | some (f, r) =>
      match allR n r with
      | none => none
      | some l => some (f :: l)

theorem take_take_drop {α : Type} (l : List α) (i j : Nat) : (l.drop i).take j ++ l.drop (i + j) = l.drop i := by
  rw [← List.drop_drop]; exact List.take_append_drop j (l.drop i)
/-- What is read has just that text. -/
theorem fileR_text {b r : List UInt8} {f : Fl} (h : fileR b = some (f, r)) : b = fileT f ++ r ∧ U32F f ∧ f.rk < 18446744073709551616 ∧ f.nm.length ≤ 255 ∧ 0 ≤ f.bk ∧ f.bk < 65536 ∧ 0 ≤ f.fr ∧ f.fr < 16777216 ∧ 0 ≤ f.ln ∧ f.ln < 16777216 ∧ (nanB f.rk = true → f.rk = nanC) := by
  cases b with
  | nil => cases h
  | cons n b =>
    unfold fileR at h
    simp only [] at h
    split at h
    · cases h
    · rename_i h0
      have hn := n.toNat_lt
      have hql : 20 ≤ (b.drop n.toNat).length := by rw [List.length_drop]; omega
      have hbq := List.take_append_drop n.toNat b
      have hnl : (b.take n.toNat).length = n.toNat := by rw [List.length_take]; omega
      generalize hq : b.drop n.toNat = q at *
      generalize hm : b.take n.toNat = m at *
      split at h
      · rename_i he
        injection h with h
        injection h with h1 h2
        have l8 : (q.take 8).length = 8 := by rw [List.length_take]; omega
        have l4 : ((q.drop 8).take 4).length = 4 := by rw [List.length_take, List.length_drop]; omega
        have l2 : ((q.drop 12).take 2).length = 2 := by rw [List.length_take, List.length_drop]; omega
        have l3 : ((q.drop 14).take 3).length = 3 := by rw [List.length_take, List.length_drop]; omega
        have l3' : ((q.drop 17).take 3).length = 3 := by rw [List.length_take, List.length_drop]; omega
        have n8 := numN_lt (q.take 8)
        have n4 := numN_lt ((q.drop 8).take 4)
        have n2 := numN_lt ((q.drop 12).take 2)
        have n3 := numN_lt ((q.drop 14).take 3)
        have n3' := numN_lt ((q.drop 17).take 3)
        rw [l8] at n8; rw [l4] at n4; rw [l2] at n2; rw [l3] at n3; rw [l3'] at n3'
        have hk : numN (q.take 8) < 18446744073709551616 := n8
        have hkey := key_of hk he
        have hof := (of_cases hk).1
        subst h1
        refine ⟨?_, ⟨by simp only []; omega, by simp only []; omega⟩, hof, by simp only [hnl]; omega, by simp only []; omega, by simp only []; omega, by simp only []; omega, by simp only []; omega, by simp only []; omega, by simp only []; omega, ?_⟩
        · rw [← h2]
          unfold fileT numsT
          simp only [Int.toNat_natCast, hkey, hnl]
          have e1 : putN 1 n.toNat = [n] := by
            simp [putN]
          rw [e1, put_num' l8, put_num' l4, put_num' l2, put_num' l3, put_num' l3', ← hbq]
          simp only [List.append_assoc, List.cons_append, List.nil_append]
          rw [take_take_drop q 17 3, take_take_drop q 14 3, take_take_drop q 12 2, take_take_drop q 8 4, List.take_append_drop]
        · intro hnan
          simp only [] at hnan ⊢
          obtain ⟨_, ⟨_, h4, _⟩ | ⟨_, _, _, h4⟩ | ⟨_, h4, h5, _, _⟩⟩ := of_cases hk
          · exact h4
          · omega
          · rw [h5, h4] at hnan; cases hnan
      · cases h
/-- The number that is read where no number was written. -/
def canR (b : Nat) : Nat := if nanB b then nanC else b
def canF (f : Fl) : Fl := { f with rk := canR f.rk }
theorem can_key {b : Nat} : keyF (canR b) = keyF b := by
  unfold canR
  cases hn : nanB b
  · simp
  · simp only [if_true]
    rw [nan_key hn, nan_key nan_nanC]
theorem can_of {b : Nat} (h : b < 18446744073709551616) : ofF (keyF b) = canR b := by
  unfold canR
  cases hn : nanB b
  · simpa using (of_key h).2.1 hn
  · simpa using (of_key h).2.2 hn
theorem can_lt {b : Nat} (h : b < 18446744073709551616) : canR b < 18446744073709551616 := by
  unfold canR; split
  · decide
  · omega
theorem can_one {f : Fl} : fOne (canF f) f = true := by
  unfold fOne canF; simp [can_key]
theorem fOne_comm (a b : Fl) : fOne a b = fOne b a := by
  unfold fOne
  rw [BEq.comm (a := a.nm), BEq.comm (a := keyF a.rk), BEq.comm (a := a.sm), BEq.comm (a := a.bk), BEq.comm (a := a.fr), BEq.comm (a := a.ln)]
theorem can_text {f : Fl} : fileT (canF f) = fileT f := by
  unfold fileT numsT canF; simp only [can_key]
theorem drop_app {α : Type} {a b : List α} {n : Nat} (h : a.length = n) : (a ++ b).drop n = b := by subst h; simp
theorem take_app {α : Type} {a b : List α} {n : Nat} (h : a.length = n) : (a ++ b).take n = a := by subst h; simp
/-- A file's text, whatever is behind it, is read. -/
theorem fileR_of {f : Fl} (ho : okF f = true) (hu : U32F f) (hr : f.rk < 18446744073709551616) (r : List UInt8) : fileR (fileT f ++ r) = some (canF f, r) := by
  have h96 := nm_96 ho
  obtain ⟨b0, b1, c0, c1, d0, d1⟩ := ok_nums ho
  obtain ⟨u0, u1⟩ := hu
  have hl : (UInt8.ofNat f.nm.length).toNat = f.nm.length := by rw [ofNat_toNat']; omega
  have hk := key_bound f.rk
  obtain ⟨hof, _⟩ := of_key hr
  have e0 : fileT f ++ r = UInt8.ofNat f.nm.length :: (f.nm ++ (numsT f ++ r)) := by simp [fileT, putN]
  rw [e0]
  unfold fileR
  simp only [hl]
  rw [if_neg (by simp [nums_len]), drop_app rfl, take_app rfl]
  have p8 := putN_len 8 (keyF f.rk)
  have p4 := putN_len 4 f.sm.toNat
  have p2 := putN_len 2 f.bk.toNat
  have p3 := putN_len 3 f.fr.toNat
  have p3' := putN_len 3 f.ln.toNat
  have q : numsT f ++ r = putN 8 (keyF f.rk) ++ (putN 4 f.sm.toNat ++ (putN 2 f.bk.toNat ++ (putN 3 f.fr.toNat ++ (putN 3 f.ln.toNat ++ r)))) := by simp [numsT]
  rw [q]
  have k8 : (putN 8 (keyF f.rk) ++ (putN 4 f.sm.toNat ++ (putN 2 f.bk.toNat ++ (putN 3 f.fr.toNat ++ (putN 3 f.ln.toNat ++ r))))).take 8 = putN 8 (keyF f.rk) := take_app p8
  have d8 : (putN 8 (keyF f.rk) ++ (putN 4 f.sm.toNat ++ (putN 2 f.bk.toNat ++ (putN 3 f.fr.toNat ++ (putN 3 f.ln.toNat ++ r))))).drop 8 = putN 4 f.sm.toNat ++ (putN 2 f.bk.toNat ++ (putN 3 f.fr.toNat ++ (putN 3 f.ln.toNat ++ r))) := drop_app p8
  have d12 : (putN 8 (keyF f.rk) ++ (putN 4 f.sm.toNat ++ (putN 2 f.bk.toNat ++ (putN 3 f.fr.toNat ++ (putN 3 f.ln.toNat ++ r))))).drop 12 = putN 2 f.bk.toNat ++ (putN 3 f.fr.toNat ++ (putN 3 f.ln.toNat ++ r)) := by
    rw [show 12 = 8 + 4 from rfl, ← List.drop_drop, d8]; exact drop_app p4
  have d14 : (putN 8 (keyF f.rk) ++ (putN 4 f.sm.toNat ++ (putN 2 f.bk.toNat ++ (putN 3 f.fr.toNat ++ (putN 3 f.ln.toNat ++ r))))).drop 14 = putN 3 f.fr.toNat ++ (putN 3 f.ln.toNat ++ r) := by
    rw [show 14 = 12 + 2 from rfl, ← List.drop_drop, d12]; exact drop_app p2
  have d17 : (putN 8 (keyF f.rk) ++ (putN 4 f.sm.toNat ++ (putN 2 f.bk.toNat ++ (putN 3 f.fr.toNat ++ (putN 3 f.ln.toNat ++ r))))).drop 17 = putN 3 f.ln.toNat ++ r := by
    rw [show 17 = 14 + 3 from rfl, ← List.drop_drop, d14]; exact drop_app p3
  have d20 : (putN 8 (keyF f.rk) ++ (putN 4 f.sm.toNat ++ (putN 2 f.bk.toNat ++ (putN 3 f.fr.toNat ++ (putN 3 f.ln.toNat ++ r))))).drop 20 = r := by
    rw [show 20 = 17 + 3 from rfl, ← List.drop_drop, d17]; exact drop_app p3'
  rw [k8, d8, d12, d14, d17, d20, take_app p4, take_app p2, take_app p3, take_app p3', num_put 8 _ hk, num_put 4 _ (by omega), num_put 2 _ (by omega), num_put 3 _ (by omega), num_put 3 _ (by omega), if_pos hof, can_of hr]
  simp only [canF, Int.toNat_of_nonneg u0, Int.toNat_of_nonneg b0, Int.toNat_of_nonneg c0, Int.toNat_of_nonneg d0]
/-- .. more octets behind change nothing. -/
theorem fileR_more {b r : List UInt8} {f : Fl} (h : fileR b = some (f, r)) (x : List UInt8) : fileR (b ++ x) = some (f, r ++ x) := by
  cases b with
  | nil => cases h
  | cons n b =>
    unfold fileR at h ⊢
    simp only [] at h
    split at h
    · cases h
    · rename_i h0
      have hql : 20 ≤ (b.drop n.toNat).length := by rw [List.length_drop]; omega
      simp only [List.cons_append]
      rw [if_neg (by rw [List.length_append]; omega), List.drop_append_of_le_length (by omega), List.take_append_of_le_length (by omega)]
      generalize b.drop n.toNat = q at *
      rw [List.take_append_of_le_length (by omega)]
      split at h
      · rename_i he
        rw [if_pos he]
        injection h with h
        injection h with h1 h2
        rw [List.drop_append_of_le_length (by omega), List.drop_append_of_le_length (by omega), List.drop_append_of_le_length (by omega), List.drop_append_of_le_length (by omega), List.drop_append_of_le_length (by omega),
          List.take_append_of_le_length (by rw [List.length_drop]; omega), List.take_append_of_le_length (by rw [List.length_drop]; omega), List.take_append_of_le_length (by rw [List.length_drop]; omega), List.take_append_of_le_length (by rw [List.length_drop]; omega), h1, h2]
      · cases h
theorem filesR_text {n : Nat} {b r : List UInt8} {l : List Fl} (h : filesR n b = some (l, r)) : b = filesT l ++ r ∧ l.length = n ∧ SmU l ∧ (∀ f ∈ l, f.rk < 18446744073709551616 ∧ f.nm.length ≤ 255) := by
  induction n generalizing b l with
  | zero =>
    rw [filesR] at h
    injection h with h
    injection h with h1 h2
    subst h1 h2
    exact ⟨rfl, rfl, fun f hf => by (cases hf), fun f hf => by cases hf⟩
  | succ n ih =>
    rw [filesR] at h
    split at h
    · cases h
    · rename_i f r1 hf
      split at h
      · cases h
      · rename_i l' r2 hl
        injection h with h
        injection h with h1 h2
        subst h1 h2
        obtain ⟨e1, e2, e3, e4, _⟩ := fileR_text hf
        obtain ⟨g1, g2, g3, g4⟩ := ih hl
        refine ⟨by rw [e1, g1, files_cons, List.append_assoc], by simp [g2], fun x hx => ?_, fun x hx => ?_⟩
        · rcases List.mem_cons.1 hx with rfl | hx
          · exact e2
          · exact g3 x hx
        · rcases List.mem_cons.1 hx with rfl | hx
          · exact ⟨e3, e4⟩
          · exact g4 x hx
theorem filesR_of : ∀ (l : List Fl) (r : List UInt8), (∀ f ∈ l, okF f = true ∧ U32F f ∧ f.rk < 18446744073709551616) → filesR l.length (filesT l ++ r) = some (l.map canF, r)
  | [], r, _ => rfl
  | f :: l, r, h => by
    obtain ⟨h1, h2, h3⟩ := h f (by simp)
    rw [List.length_cons, files_cons, filesR, List.append_assoc, fileR_of h1 h2 h3]
    simp only []
    rw [filesR_of l r (fun g hg => h g (by simp [hg]))]
    rfl
theorem filesR_more {n : Nat} {b r : List UInt8} {l : List Fl} (h : filesR n b = some (l, r)) (x : List UInt8) : filesR n (b ++ x) = some (l, r ++ x) := by
  induction n generalizing b l with
  | zero =>
    rw [filesR] at h ⊢
    injection h with h
    injection h with h1 h2
    subst h1 h2
    rfl
  | succ n ih =>
    rw [filesR] at h ⊢
    split at h
    · cases h
    · rename_i f r1 hf
      rw [fileR_more hf x]
      simp only []
      split at h
      · cases h
      · rename_i l' r2 hl
        injection h with h
        injection h with h1 h2
        subst h1 h2
        rw [ih hl]
/-- One more file. -/
theorem filesR_snoc {n : Nat} {b r r' : List UInt8} {l : List Fl} {f : Fl} (h : filesR n b = some (l, r)) (hf : fileR r = some (f, r')) : filesR (n + 1) b = some (l ++ [f], r') := by
  induction n generalizing b l with
  | zero =>
    rw [filesR] at h
    injection h with h
    injection h with h1 h2
    subst h1 h2
    rw [filesR, hf]
    rfl
  | succ n ih =>
    rw [filesR] at h
    split at h
    · cases h
    · rename_i g r1 hg
      split at h
      · cases h
      · rename_i l' r2 hl
        injection h with h
        injection h with h1 h2
        subst h1 h2
        rw [filesR, hg]
        simp only []
        rw [ih hl]
        rfl
theorem filesR_bad {n m : Nat} {b r : List UInt8} {l : List Fl} (h : filesR n b = some (l, r)) (hf : fileR r = none) (hm : n < m) : filesR m b = none := by
  induction n generalizing b l m with
  | zero =>
    rw [filesR] at h
    injection h with h
    injection h with h1 h2
    subst h1 h2
    obtain ⟨m, rfl⟩ : ∃ k, m = k + 1 := ⟨m - 1, by omega⟩
    rw [filesR, hf]
  | succ n ih =>
    obtain ⟨m, rfl⟩ : ∃ k, m = k + 1 := ⟨m - 1, by omega⟩
    rw [filesR] at h
    split at h
    · cases h
    · rename_i g r1 hg
      split at h
      · cases h
      · rename_i l' r2 hl
        injection h with h
        injection h with h1 h2
        subst h1 h2
        rw [filesR, hg]
        simp only []
        rw [ih hl (by omega)]

/-! ### tables -/
theorem tabR_text {b : List UInt8} {l : List Fl} (h : tabR b = some l) : tabT l = b ∧ tabB l = true ∧ SmU l ∧ (∀ f ∈ l, f.rk < 18446744073709551616 ∧ f.nm.length ≤ 255) := by
  unfold tabR at h
  split at h
  · cases h
  · rename_i h0
    split at h
    · cases h
    · rename_i l' r hl
      split at h
      · rename_i hc
        injection h with h
        subst h
        obtain ⟨e1, e2, e3, e4⟩ := filesR_text hl
        refine ⟨?_, hc.2, e3, e4⟩
        have h2 : (b.take 2).length = 2 := by rw [List.length_take]; omega
        unfold tabT
        rw [e2, put_num' h2]
        rw [hc.1, List.append_nil] at e1
        rw [← e1, List.take_append_drop]
      · cases h
theorem tabR_of {l : List Fl} (ht : tabB l = true) (hu : SmU l) (hr : ∀ f ∈ l, f.rk < 18446744073709551616) (hc : tabB (l.map canF) = true) : tabR (tabT l) = some (l.map canF) := by
  have h256 := tab_len ht
  have hp := putN_len 2 l.length
  unfold tabR
  rw [if_neg (by rw [tab_len']; omega)]
  unfold tabT
  rw [take_app hp, drop_app hp, num_put 2 _ (by omega)]
  have := filesR_of l [] (fun f hf => ⟨tab_ok ht hf, hu f hf, hr f hf⟩)
  rw [List.append_nil] at this
  rw [this]
  simp [hc]
theorem can_ok (f : Fl) : okF (canF f) = okF f := rfl
theorem can_nth (l : List Fl) (i : Nat) : nth (l.map canF) i = if i < l.length then canF (nth l i) else default := by
  by_cases h : i < l.length
  · rw [if_pos h, nth_get (by simpa using h), nth_get h]; simp
  · rw [if_neg h]; unfold nth; simp [List.getD, h]
theorem can_tab {l : List Fl} (h : tabB l = true) : tabB (l.map canF) = true := by
  obtain ⟨h1, h2, h3⟩ := tab_iff.1 h
  refine tab_iff.2 ⟨by simpa using h1, fun f hf => ?_, ?_⟩
  · obtain ⟨g, hg, rfl⟩ := List.mem_map.1 hf
    exact h2 g hg
  · unfold Up at h3 ⊢
    rw [List.pairwise_map]
    exact h3
theorem sameB_iff {a b : List Fl} : sameB a b = true ↔ a.length = b.length ∧ ∀ i, i < a.length → fOne (nth a i) (nth b i) = true := by
  unfold sameB
  rw [Bool.and_eq_true, decide_eq_true_iff, List.all_eq_true]
  exact and_congr_right fun _ => ⟨fun h i hi => h i (List.mem_range.2 hi), fun h i hi => h i (List.mem_range.1 hi)⟩
theorem can_same {l : List Fl} : sameB (l.map canF) l = true := by
  refine sameB_iff.2 ⟨by simp, fun i hi => ?_⟩
  have h : i < l.length := by simpa using hi
  rw [can_nth, if_pos h]
  exact can_one

/-- What 'From' answers. -/
def fromL (b : List UInt8) : List Fl := if 65536 < b.length then [] else (tabR b).getD []
def fromE (b : List UInt8) : Int := if 65536 < b.length then 3 else if (tabR b).isSome then 0 else 2
/-- What 'Bytes' answers. -/
def bytesL (l : List Fl) : List UInt8 := if tabB l then tabT l else []

/-! ### the reference's reading -/
theorem allR_files {m : Nat} : ∀ {n : Nat} {b : List UInt8} {l : List Fl}, b.length ≤ n → filesR m b = some (l, []) → allR n b = some l := by
  induction m with
  | zero =>
    intro n b l hn h
    rw [filesR] at h
    injection h with h
    injection h with h1 h2
    subst h1 h2
    cases n <;> simp [allR]
  | succ m ih =>
    intro n b l hn h
    rw [filesR] at h
    split at h
    · cases h
    · rename_i f r hf
      split at h
      · cases h
      · rename_i l' r' hl
        injection h with h
        injection h with h1 h2
        subst h1 h2
        have hb := (fileR_text hf).1
        have hlen : b.length = 21 + f.nm.length + r.length := by rw [hb, List.length_append, file_len]
        obtain ⟨n, rfl⟩ : ∃ k, n = k + 1 := ⟨n - 1, by omega⟩
        rw [allR, if_neg (by rintro rfl; simp at hlen; omega), hf]
        simp only []
        rw [ih (by omega) hl]
theorem allR_is : ∀ {n : Nat} {b : List UInt8} {l : List Fl}, allR n b = some l → filesR l.length b = some (l, []) := by
  intro n
  induction n with
  | zero =>
    intro b l h
    rw [allR] at h
    split at h
    · rename_i hb
      injection h with h
      subst h hb
      rfl
    · cases h
  | succ n ih =>
    intro b l h
    rw [allR] at h
    split at h
    · rename_i hb
      injection h with h
      subst h hb
      rfl
    · split at h
      · cases h
      · rename_i f r hf
        split at h
        · cases h
        · rename_i l' hl
          injection h with h
          subst h
          rw [List.length_cons, filesR, hf]
          simp only []
          rw [ih hl]
/-- The reference's way to the same answer. -/
theorem tabR_all {b : List UInt8} (h2 : 2 ≤ b.length) {n : Nat} (hn : b.length ≤ n) : tabR b = (allR n (b.drop 2)).bind (fun l => if tabB l = true ∧ tabT l = b then some l else none) := by
  cases h : allR n (b.drop 2) with
  | none =>
    rw [Option.bind_none]
    cases ht : tabR b with
    | none => rfl
    | some l =>
      exfalso
      unfold tabR at ht
      rw [if_neg (by omega)] at ht
      split at ht
      · cases ht
      · rename_i l' r hl
        split at ht
        · rename_i hc
          rw [hc.1] at hl
          rw [allR_files (n := n) (by rw [List.length_drop]; omega) hl] at h
          cases h
        · cases ht
  | some l =>
    rw [Option.bind_some]
    have hl := allR_is h
    split
    · rename_i hc
      have hp := putN_len 2 l.length
      have e1 : b.take 2 = putN 2 l.length := by rw [← hc.2, tabT, take_app hp]
      have := tab_len hc.1
      unfold tabR
      rw [if_neg (by omega), e1, num_put 2 _ (by omega), hl]
      simp [hc.1]
    · rename_i hc
      cases ht : tabR b with
      | none => rfl
      | some l' =>
        exfalso
        obtain ⟨t1, t2, t3, _⟩ := tabR_text ht
        have hp := putN_len 2 l'.length
        have e2 : b.drop 2 = filesT l' := by rw [← t1, tabT, drop_app hp]
        have : allR n (b.drop 2) = some l' := by
          unfold tabR at ht
          rw [if_neg (by omega)] at ht
          split at ht
          · cases ht
          · rename_i l2 r hl2
            split at ht
            · rename_i hc2
              injection ht with ht
              subst ht
              rw [hc2.1] at hl2
              exact allR_files (n := n) (by rw [List.length_drop]; omega) hl2
            · cases ht
        rw [h] at this
        injection this with this
        subst this
        exact hc ⟨t2, t1⟩
end Go.Proofs.Ytnjepbehfioclaa
