import Derived.Test.YteokimebfbnlkaaW29
import Derived.Maps.AppendAt
namespace Go.Proofs.Yteokimebfbnlkaa
open Go.RowKit

theorem Agree.callG {lo hi B : Nat} {w w' w'' : World} (h : Agree lo hi w w') (hb : Below B w' w'') (hB : hi ≤ B) : Agree lo hi w w'' := fun k h1 h2 => (hb.block k (by omega)).trans (h k h1 h2)
theorem Agree.setG {lo hi : Nat} {w w' : World} (h : Agree lo hi w w') {a : Addr} (ha : a.block < lo ∨ hi ≤ a.block) (u : Value) : Agree lo hi w (w'.setCell a u) := fun k h1 h2 =>
  (Below.heap_setCell w' a u k (by omega)).trans (h k h1 h2)
theorem Agree.grown {lo hi : Nat} {w w' w'' : World} {row : Option Nat} (h : Agree lo hi w w') (hg : w'.grownBy w'' row) (hh : hi ≤ w'.heap.size) (hr : ∀ k, row = some k → k < lo ∨ hi ≤ k) : Agree lo hi w w'' := fun k h1 h2 =>
  (hg.block k (by omega) (fun e => by have := hr k e.symm; omega)).trans (h k h1 h2)
/-- An append, and where the new row lies. -/
theorem run_app_at {P : Program} (w : World) (base : Nat) (t ty e : TypeId) (i : TypeInfo) (z : Value) (size bytes : Nat) (ht : P.underlying t = some (.slice e)) (hi : P.info? e = some i) (hz : i.zero = some z)
    (hsize : i.size = size) (hby : i.bytes = bytes) (hzs : z.cells.size = size) (hsz : 0 < size)
    (v : Value) (n : Nat) (xs : List Value) (hown : w.ownsRow base e size v n xs)
    (A : Option Addr) (m c : Nat) (news : List Value) (hl : news.length = m * size) (hr : SrcOk w A m news) (h1 : ∀ u ∈ news, u.oneCell' = true)
    (h63 : n + m ≤ maxLen) (hbytes : (n + m) * bytes ≤ 140737488355328) (hbase : base ≤ w.heap.size) :
    ∃ v' w', (Builtin.append_ #[t, t] ty #[v, .slice A m c]).run P w = .ok v' w' ∧ w'.ownsRow base e size v' (n + m) (xs ++ news) ∧ w.grownBy w' v.ownBlock ∧ (v'.ownBlock = v.ownBlock ∨ v'.ownBlock = some w.heap.size) := by
  rcases Nat.eq_zero_or_pos m with rfl | hm
  · have hn : news = [] := List.eq_nil_of_length_eq_zero (by simpa using hl)
    subst hn
    rcases A with _ | ad
    · refine ⟨v, w, ?_, by simpa using hown, World.grownBy.refl w _, .inl rfl⟩
      rcases hown.2 with ⟨rfl, rfl⟩ | ⟨g, cap, cur, rfl, _, _, hnc, _⟩
      · simp [Builtin.append_, run_underlying ht, sizeOf, typeInfo, hi, Builtin.lenOf, Builtin.firstCells]
      · simp [Builtin.append_, run_underlying ht, sizeOf, typeInfo, hi, Builtin.lenOf, Builtin.firstCells, hnc, storeCells]
    · obtain ⟨v', w', a, b, c', _, d⟩ := run_append_own_at (P := P) w base t ty e i z size bytes ht hi hz hsize hby hzs hsz v n xs hown ad 0 c [] hl (by simp) h1 h63 hbytes hbase
      exact ⟨v', w', a, b, c', d⟩
  · obtain ⟨ad, rfl, hc⟩ := hr hm
    obtain ⟨v', w', a, b, c', _, d⟩ := run_append_own_at (P := P) w base t ty e i z size bytes ht hi hz hsize hby hzs hsz v n xs hown ad m c news hl hc h1 h63 hbytes hbase
    exact ⟨v', w', a, b, c', d⟩
theorem wp_app_at {P : Program} (w : World) {o : Oper} {a : Act} {K : Act → World → Prop} {Q : Exit → Act → World → Prop} (s x : Operand) (t : TypeId)
    (ho : o.op = .call { callee := .builtin .append, args := #[s, x], argTypes := #[t, t] })
    (base : Nat) (e : TypeId) (i : TypeInfo) (z : Value) (size bytes : Nat) (ht : P.underlying t = some (.slice e)) (hi : P.info? e = some i) (hz : i.zero = some z)
    (hsize : i.size = size) (hby : i.bytes = bytes) (hzs : z.cells.size = size) (hsz : 0 < size)
    (v : Value) (n : Nat) (xs : List Value) (hs : a.eval s = v) (hown : w.ownsRow base e size v n xs)
    (A : Option Addr) (m c : Nat) (news : List Value) (hx : a.eval x = .slice A m c) (hl : news.length = m * size) (hr : SrcOk w A m news) (h1 : ∀ u ∈ news, u.oneCell' = true)
    (h63 : n + m ≤ maxLen) (hbytes : (n + m) * bytes ≤ 140737488355328) (hbase : base ≤ w.heap.size)
    (h : ∀ v' w', w'.ownsRow base e size v' (n + m) (xs ++ news) → w.grownBy w' v.ownBlock → (v'.ownBlock = v.ownBlock ∨ v'.ownBlock = some w.heap.size) → K (a.put o.dst v') w') : o.wp P a w K Q := by
  obtain ⟨v', w', hr, h2, h3, h4⟩ := run_app_at (P := P) w base t o.type e i z size bytes ht hi hz hsize hby hzs hsz v n xs hown A m c news hl hr h1 h63 hbytes hbase
  unfold Oper.wp execOp
  simp only [ho, resolve, invoke, builtin, Sem.run_bind, Sem.run_pure, Result.andThen_ok, List.map_toArray, List.map_cons, List.map_nil, hs, hx, hr]
  exact h v' w' h2 h3 h4
theorem wpList_app_at {P : Program} (w : World) {ops : Array Oper} {rest : List Oper} {o : Oper} {a : Act} {Q : Exit → Act → World → Prop} (hgd : o.guard = none) (s x : Operand) (t : TypeId)
    (ho : o.op = .call { callee := .builtin .append, args := #[s, x], argTypes := #[t, t] })
    (base : Nat) (e : TypeId) (i : TypeInfo) (z : Value) (size bytes : Nat) (ht : P.underlying t = some (.slice e)) (hi : P.info? e = some i) (hz : i.zero = some z)
    (hsize : i.size = size) (hby : i.bytes = bytes) (hzs : z.cells.size = size) (hsz : 0 < size)
    (v : Value) (n : Nat) (xs : List Value) (hs : a.eval s = v) (hown : w.ownsRow base e size v n xs)
    (A : Option Addr) (m c : Nat) (news : List Value) (hx : a.eval x = .slice A m c) (hl : news.length = m * size) (hr : SrcOk w A m news) (h1 : ∀ u ∈ news, u.oneCell' = true)
    (h63 : n + m ≤ maxLen) (hbytes : (n + m) * bytes ≤ 140737488355328) (hbase : base ≤ w.heap.size)
    (h : ∀ v' w', w'.ownsRow base e size v' (n + m) (xs ++ news) → w.grownBy w' v.ownBlock → (v'.ownBlock = v.ownBlock ∨ v'.ownBlock = some w.heap.size) → wpList P ops Q rest (a.put o.dst v') w') : wpList P ops Q (o :: rest) a w :=
  wpList_plain hgd fun _ hK => wp_app_at w s x t ho base e i z size bytes ht hi hz hsize hby hzs hsz v n xs hs hown A m c news hx hl hr h1 h63 hbytes hbase fun v' w' h2 h3 h4 => hK _ _ (h v' w' h2 h3 h4)
theorem step_app_at {P : Program} {ops : Array Oper} {o : Oper} {a : Act} {w : World} {K : Act → World → Prop} {Q : Exit → Act → World → Prop} {E : Prop} (hgd : o.guard = none) (s x : Operand) (t : TypeId)
    (ho : o.op = .call { callee := .builtin .append, args := #[s, x], argTypes := #[t, t] })
    (base : Nat) (e : TypeId) (i : TypeInfo) (z : Value) (size bytes : Nat) (ht : P.underlying t = some (.slice e)) (hi : P.info? e = some i) (hz : i.zero = some z)
    (hsize : i.size = size) (hby : i.bytes = bytes) (hzs : z.cells.size = size) (hsz : 0 < size)
    (v : Value) (n : Nat) (xs : List Value) (hs : a.eval s = v) (hown : w.ownsRow base e size v n xs)
    (A : Option Addr) (m c : Nat) (news : List Value) (hx : a.eval x = .slice A m c) (hl : news.length = m * size) (hr : SrcOk w A m news) (h1 : ∀ u ∈ news, u.oneCell' = true)
    (h63 : n + m ≤ maxLen) (hbytes : (n + m) * bytes ≤ 140737488355328) (hbase : base ≤ w.heap.size)
    (h : ∀ v' w', w'.ownsRow base e size v' (n + m) (xs ++ news) → w.grownBy w' v.ownBlock → (v'.ownBlock = v.ownBlock ∨ v'.ownBlock = some w.heap.size) → K (a.put o.dst v') w') :
    if Region.wanted o (yielded ops a.tmps) = true then Oper.wp P o a w K Q else E := by
  have hw : Region.wanted o (yielded ops a.tmps) = true := by simp [Region.wanted, hgd]
  rw [if_pos hw]
  exact wp_app_at w s x t ho base e i z size bytes ht hi hz hsize hby hzs hsz v n xs hs hown A m c news hx hl hr h1 h63 hbytes hbase h

theorem Blk.grown {w w' : World} {g : Nat} {t : TypeId} {cs : Array Value} {row : Option Nat} (h : Blk w g t cs) (hg : w.grownBy w' row) (hne : some g ≠ row) : Blk w' g t cs := (hg.block g h.lt hne).trans h
theorem own_ne {w : World} {base : Nat} {e : TypeId} {size : Nat} {v : Value} {n : Nat} {xs : List Value} (h : w.ownsRow base e size v n xs) {g : Nat} {t : TypeId} {cs : Array Value} (hg : Blk w g t cs) (hne : e ≠ t) : some g ≠ v.ownBlock := by
  intro q
  rcases h.2 with ⟨rfl, _⟩ | ⟨g', cap, cur, rfl, _, hh, _⟩
  · cases q
  · injection q with q
    exact Blk.ne_ (t := e) (cs := cur) hh hg hne q.symm
theorem own_lt {w : World} {base : Nat} {e : TypeId} {size : Nat} {v : Value} {n : Nat} {xs : List Value} (h : w.ownsRow base e size v n xs) : ∀ k, v.ownBlock = some k → k < w.heap.size := by
  intro k hk
  rcases h.2 with ⟨rfl, _⟩ | ⟨g', cap, cur, rfl, _, hh, _⟩
  · cases hk
  · injection hk with hk
    subst hk
    exact Blk.lt (t := e) (cs := cur) hh
theorem own_set2 {w : World} {base : Nat} {e : TypeId} {size : Nat} {v : Value} {n : Nat} {xs : List Value} {g : Nat} {t : TypeId} {a b x y : Value} (h : w.ownsRow base e size v n xs) (hg : Blk w g t #[a, b]) (hne : e ≠ t) :
    ((w.setCell ⟨g, 0, none⟩ x).setCell ⟨g, 1, none⟩ y).ownsRow base e size v n xs :=
  own_far (own_far h hg hne 0 x) (hg.set 0 x) hne 1 y
/-- A slice whose block is not the row's. -/
def Apart (A : Option Addr) (n : Nat) (v : Value) : Prop := 0 < n → ∀ a, A = some a → some a.block ≠ v.ownBlock
theorem Apart.fresh {lo hi : Nat} {w : World} {A : Option Addr} {n c : Nat} {l : List Ex} {v : Value} (h : Exs lo hi w (.slice A n c) l) (hv : ∀ k, v.ownBlock = some k → k < lo ∨ hi ≤ k) : Apart A n v := by
  intro hn a ha e
  obtain ⟨A', c', e', _, _, h3⟩ := h.open
  injection e' with e1 e2 e3
  subst e1 e2 e3
  obtain ⟨b, off, h4, h5, h6, _⟩ := h3 0 hn
  rw [h4] at ha
  injection ha with ha
  subst ha
  have := hv b e.symm
  omega
theorem Exs.at_ {lo hi : Nat} {w w' : World} {A : Option Addr} {n c : Nat} {l : List Ex} (h : Exs lo hi w (.slice A n c) l) (hk : 0 < n → ∀ a, A = some a → w'.heap[a.block]? = w.heap[a.block]?) : Exs lo hi w' (.slice A n c) l := by
  obtain ⟨A', c', e, h1, h2, h3, h4⟩ := h
  injection e with e1 e2 e3
  subst e1 e2 e3
  refine ⟨A, c, rfl, h1, h2, h3, fun b off ea i hi => ?_⟩
  obtain ⟨cs, hl, hc, hr⟩ := h4 b off ea i hi
  exact ⟨cs, hl, fun j hj => (World.cell?_of_block (a := ⟨b, off + i * 2 + j, none⟩) (hk (by omega) ⟨b, off, none⟩ ea)).trans (hc j hj), hr⟩

theorem XsR.exs {lo hi : Nat} {w : World} {z : Int} {b : Value} {x : Xs} (h : XsR lo hi w (.agg #[.int .i64 z, b]) x) : Exs lo hi w b x.free := by
  obtain ⟨b', e, h⟩ := h
  simp only [Value.agg.injEq, Array.mk.injEq, List.cons.injEq, and_true] at e
  obtain ⟨_, rfl⟩ := e
  exact h
theorem ex_src {w : World} {g : Nat} {a n : Int} (h : Blk w g 26 #[.int .i64 a, .int .i64 n]) : SrcOk w (some ⟨g, 0, none⟩) 1 (exv ⟨a, n⟩) := by
  refine fun _ => ⟨_, rfl, fun j u hu => ?_⟩
  have key : w.cell? ⟨g, j, none⟩ = some u := by
    rw [h.cell, ← hu]
    match j with
    | 0 => rfl
    | 1 => rfl
    | j + 2 => rfl
  unfold Addr.add
  split
  · rename_i h0; subst h0; exact key
  · rw [Nat.zero_add]; exact key
theorem exv_one (s : Ex) : ∀ u ∈ exv s, u.oneCell' = true := by
  intro u hu
  simp [exv] at hu
  rcases hu with rfl | rfl <;> rfl
theorem flat_snoc (os : List Ex) (s : Ex) : os.flatMap exv ++ exv s = (os ++ [s]).flatMap exv := by simp

theorem part_src {lo hi : Nat} {W : World} {A A' : Option Addr} {c i j : Nat} {os : List Ex} (h : Exs lo hi W (.slice A os.length c) os) (hij : i ≤ j) (hj : j ≤ os.length) (e : sliced A i j c 2 = .slice A' (j - i) (c - i)) : SrcOk W A' (j - i) (((os.drop i).take (j - i)).flatMap exv) := by
  obtain ⟨A2, e2, h2⟩ := h.part i j hij hj
  rw [e] at e2
  injection e2 with e3
  subst e3
  exact h2.src.2
theorem none_block {k : Nat} {A : Prop} (h : (Value.slice none 0 0).ownBlock = some k) : A := by cases h

/-- The bytes' cells. -/
def Os (lo hi : Nat) (w : World) (v : Value) (l : List Int) : Prop := Sl 1 (fun _ cs z => cs = [.int .u8 z]) lo hi w v l
theorem Os.open {lo hi : Nat} {w : World} {v : Value} {l : List Int} (h : Os lo hi w v l) : ∃ A c, v = .slice A l.length c ∧ l.length ≤ c ∧ c ≤ 9223372036854775807 ∧
    ∀ k (hk : k < l.length), ∃ b off, A = some ⟨b, off, none⟩ ∧ lo ≤ b ∧ b < hi ∧ w.cell? ⟨b, off + k, none⟩ = some (.int .u8 l[k]) := by
  obtain ⟨A, c, rfl, h1, h2, h3, h4⟩ := h
  refine ⟨A, c, rfl, h1, h2, fun k hk => ?_⟩
  obtain ⟨b, off, rfl, hb, hb'⟩ := h3 (by omega)
  obtain ⟨cs, hl, hc, hr⟩ := h4 b off rfl k hk
  refine ⟨b, off, rfl, hb, hb', ?_⟩
  have := hc 0 (by omega)
  simpa [hr] using this
end Go.Proofs.Yteokimebfbnlkaa
