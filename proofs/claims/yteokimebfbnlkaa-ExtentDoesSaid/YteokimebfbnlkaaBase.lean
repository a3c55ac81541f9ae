import Derived.WalkKit
import Derived.Handy
import Derived.Lib.SliceRun
import Derived.WalkSpells
import Derived.WalkLawsBesides
import Derived.Lib.Hide
import Derived.Deep.QuietTactic
import Derived.BigQuiet
import Derived.Deep.RegionHeld3
import Derived.Laws.CopyOwn
import Derived.Deep.AppendLies
import Derived.Deep.LoopGhost
import Derived.StillTailTactics
import Derived.Deep.DeepCutAuto
import Derived.Test.YteokimebfbnlkaaE0
namespace Go.Proofs.Yteokimebfbnlkaa
open Go.RowKit

/-- The slice value 'v' reads as the list 'l' of things of 'k' cells each; 'R' tells what the cells of one are. -/
def Sl {α : Type} (k : Nat) (R : World → List Value → α → Prop) (lo hi : Nat) (w : World) (v : Value) (l : List α) : Prop :=
  ∃ A c, v = .slice A l.length c ∧ l.length ≤ c ∧ c ≤ 9223372036854775807 ∧
    (0 < l.length → ∃ b off, A = some ⟨b, off, none⟩ ∧ lo ≤ b ∧ b < hi) ∧
    ∀ b off, A = some ⟨b, off, none⟩ → ∀ i (h : i < l.length), ∃ cs, cs.length = k ∧ (∀ j (hj : j < cs.length), w.cell? ⟨b, off + i * k + j, none⟩ = some cs[j]) ∧ R w cs l[i]

/-- The two worlds agree on the blocks from 'lo' on and below 'hi'. -/
def Agree (lo hi : Nat) (w w' : World) : Prop := ∀ k, lo ≤ k → k < hi → w'.heap[k]? = w.heap[k]?

theorem Agree.of_below {lo hi B : Nat} {w w' : World} (h : Below B w w') (hb : hi ≤ B) : Agree lo hi w w' := fun k _ hk => h.block k (by omega)
theorem Agree.refl (lo hi : Nat) (w : World) : Agree lo hi w w := fun _ _ _ => rfl

theorem Sl.keep {α : Type} {k : Nat} {R : World → List Value → α → Prop} {lo hi : Nat} {w w' : World} {v : Value} {l : List α} (h : Sl k R lo hi w v l)
    (ha : Agree lo hi w w') (hR : ∀ cs x, R w cs x → R w' cs x) : Sl k R lo hi w' v l := by
  obtain ⟨A, c, rfl, h1, h2, h3, h4⟩ := h
  refine ⟨A, c, rfl, h1, h2, h3, fun b off e i hi => ?_⟩
  obtain ⟨cs, hl, hc, hr⟩ := h4 b off e i hi
  obtain ⟨b', off', e', hb, hb'⟩ := h3 (by omega)
  rw [e] at e'
  injection e' with e'
  injection e' with e1 e2
  subst e1
  exact ⟨cs, hl, fun j hj => (World.cell?_of_block (ha b hb hb')).trans (hc j hj), hR _ _ hr⟩

theorem Sl.mono {α : Type} {k : Nat} {R R' : World → List Value → α → Prop} {lo hi lo' hi' : Nat} {w : World} {v : Value} {l : List α} (h : Sl k R lo hi w v l)
    (h1 : lo' ≤ lo) (h2 : hi ≤ hi') (hR : ∀ cs x, R w cs x → R' w cs x) : Sl k R' lo' hi' w v l := by
  obtain ⟨A, c, rfl, a1, a2, h3, h4⟩ := h
  refine ⟨A, c, rfl, a1, a2, fun h0 => ?_, fun b off e i hi => ?_⟩
  · obtain ⟨b, off, e, hb, hb'⟩ := h3 h0
    exact ⟨b, off, e, by omega, by omega⟩
  · obtain ⟨cs, hl, hc, hr⟩ := h4 b off e i hi
    exact ⟨cs, hl, hc, hR _ _ hr⟩

theorem bl_alloc {a w : World} (h : Below a.heap.size a w) (o : Obj) : Below a.heap.size a (w.alloc o) := h.alloc h.size o
theorem bl_call {a w w' : World} (h : Below a.heap.size a w) (h' : Below w.heap.size w w') : Below a.heap.size a w' := h.trans (h'.mono h.size)
theorem bl_grown {a w w' : World} {row : Option Nat} (h : Below a.heap.size a w) (hg : w.grownBy w' row) (hr : ∀ k, row = some k → a.heap.size ≤ k) : Below a.heap.size a w' := h.grown hg h.size hr
theorem bcell {W w1 : World} (hb : Below W.heap.size W w1) : (∀ b o, b < W.heap.size → w1.cell? ⟨b, o, none⟩ = W.cell? ⟨b, o, none⟩) ∧ (∀ b o, b < W.heap.size → w1.frozen? ⟨b, o, none⟩ = W.frozen? ⟨b, o, none⟩) :=
  ⟨fun b o h => hb.cell (p := ⟨b, o, none⟩) h, fun b o h => hb.frozen (p := ⟨b, o, none⟩) h⟩
theorem hide {p : Prop} (h : p) : Hid p := h
theorem unhide {p : Prop} (h : Hid p) : p := h
theorem ret_v {v v' : Value} (h : v = v') : Ending.returned v = .returned v' := by rw [h]
theorem ret_b {v : Value} {b b' : Bool} (h : v = .bool b) (e : b = b') : Ending.returned v = .returned (.bool b') := by rw [h, e]
theorem ret_i {v : Value} {k : IntKind} {b b' : Int} (h : v = .int k b) (e : b = b') : Ending.returned v = .returned (.int k b') := by rw [h, e]

/-! ### append onto a row of the call's own, whatever the source -/
/-- A source of an append: where there is an element there is an address with the cells 'news'. -/
def SrcOk (w : World) (A : Option Addr) (m : Nat) (news : List Value) : Prop := 0 < m → ∃ ad, A = some ad ∧ ∀ j u, news[j]? = some u → w.cell? (ad.add j) = some u
theorem SrcOk.below {w w' : World} {A : Option Addr} {m : Nat} {news : List Value} (h : SrcOk w A m news) (hb : Below w.heap.size w w') : SrcOk w' A m news := fun h0 => by
  obtain ⟨ad, e, hc⟩ := h h0
  exact ⟨ad, e, fun j u hu => (hb.cell (World.block_lt_of_cell? w _ (hc j u hu))).trans (hc j u hu)⟩
section
variable {P : Program} (w : World)
theorem run_app (base : Nat) (t ty e : TypeId) (i : TypeInfo) (z : Value) (size bytes : Nat) (ht : P.underlying t = some (.slice e)) (hi : P.info? e = some i) (hz : i.zero = some z)
    (hsize : i.size = size) (hby : i.bytes = bytes) (hzs : z.cells.size = size) (hsz : 0 < size)
    (v : Value) (n : Nat) (xs : List Value) (hown : w.ownsRow base e size v n xs)
    (A : Option Addr) (m c : Nat) (news : List Value) (hl : news.length = m * size) (hr : SrcOk w A m news) (h1 : ∀ u ∈ news, u.oneCell' = true)
    (h63 : n + m ≤ maxLen) (hbytes : (n + m) * bytes ≤ 140737488355328) (hbase : base ≤ w.heap.size) :
    ∃ v' w', (Builtin.append_ #[t, t] ty #[v, .slice A m c]).run P w = .ok v' w' ∧ w'.ownsRow base e size v' (n + m) (xs ++ news) ∧ w.grownBy w' v.ownBlock := by
  rcases Nat.eq_zero_or_pos m with rfl | hm
  · have hn : news = [] := List.eq_nil_of_length_eq_zero (by simpa using hl)
    subst hn
    rcases A with _ | ad
    · refine ⟨v, w, ?_, by simpa using hown, World.grownBy.refl w _⟩
      rcases hown.2 with ⟨rfl, rfl⟩ | ⟨g, cap, cur, rfl, _, _, hnc, _⟩
      · simp [Builtin.append_, run_underlying ht, sizeOf, typeInfo, hi, Builtin.lenOf, Builtin.firstCells]
      · simp [Builtin.append_, run_underlying ht, sizeOf, typeInfo, hi, Builtin.lenOf, Builtin.firstCells, hnc, storeCells]
    · obtain ⟨v', w', a, b, c', _⟩ := run_append_own (P := P) w base t ty e i z size bytes ht hi hz hsize hby hzs hsz v n xs hown ad 0 c [] hl (by simp) h1 h63 hbytes hbase
      exact ⟨v', w', a, b, c'⟩
  · obtain ⟨ad, rfl, hc⟩ := hr hm
    obtain ⟨v', w', a, b, c', _⟩ := run_append_own (P := P) w base t ty e i z size bytes ht hi hz hsize hby hzs hsz v n xs hown ad m c news hl hc h1 h63 hbytes hbase
    exact ⟨v', w', a, b, c'⟩

theorem wp_app {o : Oper} {a : Act} {K : Act → World → Prop} {Q : Exit → Act → World → Prop} (s x : Operand) (t : TypeId)
    (ho : o.op = .call { callee := .builtin .append, args := #[s, x], argTypes := #[t, t] })
    (base : Nat) (e : TypeId) (i : TypeInfo) (z : Value) (size bytes : Nat) (ht : P.underlying t = some (.slice e)) (hi : P.info? e = some i) (hz : i.zero = some z)
    (hsize : i.size = size) (hby : i.bytes = bytes) (hzs : z.cells.size = size) (hsz : 0 < size)
    (v : Value) (n : Nat) (xs : List Value) (hs : a.eval s = v) (hown : w.ownsRow base e size v n xs)
    (A : Option Addr) (m c : Nat) (news : List Value) (hx : a.eval x = .slice A m c) (hl : news.length = m * size) (hr : SrcOk w A m news) (h1 : ∀ u ∈ news, u.oneCell' = true)
    (h63 : n + m ≤ maxLen) (hbytes : (n + m) * bytes ≤ 140737488355328) (hbase : base ≤ w.heap.size)
    (h : ∀ v' w', w'.ownsRow base e size v' (n + m) (xs ++ news) → w.grownBy w' v.ownBlock → K (a.put o.dst v') w') : o.wp P a w K Q := by
  obtain ⟨v', w', hr, h2, h3⟩ := run_app (P := P) w base t o.type e i z size bytes ht hi hz hsize hby hzs hsz v n xs hown A m c news hl hr h1 h63 hbytes hbase
  unfold Oper.wp execOp
  simp only [ho, resolve, invoke, builtin, Sem.run_bind, Sem.run_pure, Result.andThen_ok, List.map_toArray, List.map_cons, List.map_nil, hs, hx, hr]
  exact h v' w' h2 h3

theorem wpList_app {ops : Array Oper} {rest : List Oper} {o : Oper} {a : Act} {Q : Exit → Act → World → Prop} (hgd : o.guard = none) (s x : Operand) (t : TypeId)
    (ho : o.op = .call { callee := .builtin .append, args := #[s, x], argTypes := #[t, t] })
    (base : Nat) (e : TypeId) (i : TypeInfo) (z : Value) (size bytes : Nat) (ht : P.underlying t = some (.slice e)) (hi : P.info? e = some i) (hz : i.zero = some z)
    (hsize : i.size = size) (hby : i.bytes = bytes) (hzs : z.cells.size = size) (hsz : 0 < size)
    (v : Value) (n : Nat) (xs : List Value) (hs : a.eval s = v) (hown : w.ownsRow base e size v n xs)
    (A : Option Addr) (m c : Nat) (news : List Value) (hx : a.eval x = .slice A m c) (hl : news.length = m * size) (hr : SrcOk w A m news) (h1 : ∀ u ∈ news, u.oneCell' = true)
    (h63 : n + m ≤ maxLen) (hbytes : (n + m) * bytes ≤ 140737488355328) (hbase : base ≤ w.heap.size)
    (h : ∀ v' w', w'.ownsRow base e size v' (n + m) (xs ++ news) → w.grownBy w' v.ownBlock → wpList P ops Q rest (a.put o.dst v') w') : wpList P ops Q (o :: rest) a w :=
  wpList_plain hgd fun _ hK => wp_app w s x t ho base e i z size bytes ht hi hz hsize hby hzs hsz v n xs hs hown A m c news hx hl hr h1 h63 hbytes hbase fun v' w' h2 h3 => hK _ _ (h v' w' h2 h3)
end

/-- 'make([]T, n)', for every world. -/
theorem run_mk {P : Program} (t e : TypeId) (i : TypeInfo) (z : Value) (size : Nat) (ht : P.underlying t = some (.slice e)) (hi : P.info? e = some i) (hz : i.zero = some z) (hsize : i.size = size)
    (n : Nat) (hbytes : i.bytes * n ≤ 281474976710656) (h63 : n ≤ 9223372036854775807) (W : World) :
    (Instr.makeSlice t (.int .i64 (n : Int)) (.int .i64 (n : Int))).run P W = .ok (.slice (some ⟨W.heap.size, 0, none⟩) n n) (W.alloc (.cells (madeCells z.cells (n * size)) e)) := by
  subst hsize
  have hb' : (i.bytes : Int) * (n : Int) ≤ 281474976710656 := by
    have h : ((i.bytes * n : Nat) : Int) ≤ 281474976710656 := by omega
    rwa [Int.natCast_mul] at h
  have hr := run_make (P := P) W t e i z ht hi hz .i64 .i64 n n (by omega) (Int.le_refl _) hb' (by omega)
  simp only [Int.toNat_natCast] at hr
  exact hr

/-! ### bytes that the call owns -/
theorem ownsRow_len {w : World} {base : Nat} {e : TypeId} {size : Nat} {v : Value} {n : Nat} {xs : List Value} (h : w.ownsRow base e size v n xs) : xs.length = n * size := h.1

theorem ownsRow_mono {w : World} {base base' : Nat} {e : TypeId} {size : Nat} {v : Value} {n : Nat} {xs : List Value} (h : w.ownsRow base e size v n xs) (hb : base' ≤ base) : w.ownsRow base' e size v n xs := by
  obtain ⟨h1, h2⟩ := h
  refine ⟨h1, ?_⟩
  rcases h2 with h2 | ⟨g, cap, cur, hv, hg, r⟩
  · exact .inl h2
  · exact .inr ⟨g, cap, cur, hv, by omega, r⟩
theorem ownsRow_form {w : World} {base : Nat} {e : TypeId} {size : Nat} {v : Value} {n : Nat} {xs : List Value} (h : w.ownsRow base e size v n xs) : ∃ A c, v = .slice A n c := by
  rcases h.2 with ⟨rfl, rfl⟩ | ⟨g, cap, cur, rfl, _⟩
  · exact ⟨_, _, rfl⟩
  · exact ⟨_, _, rfl⟩
/-- A row of the call's own stays while a cell of a block below its base is written. -/
theorem ownsRow_setCell' {w : World} {base : Nat} {e : TypeId} {size : Nat} {v : Value} {n : Nat} {xs : List Value} (h : w.ownsRow base e size v n xs) {a : Addr} (ha : a.block < base) (u : Value) : (w.setCell a u).ownsRow base e size v n xs :=
  ownsRow_setCell_below h ha u

/-! ### a block that is known whole -/
def Blk (w : World) (g : Nat) (t : TypeId) (cs : Array Value) : Prop := w.heap[g]? = some (.cells cs t (0, 0))
section
variable {w w' : World} {g : Nat} {t : TypeId} {cs : Array Value}
theorem Blk.lt (h : Blk w g t cs) : g < w.heap.size := by
  rcases Nat.lt_or_ge g w.heap.size with h1 | h1
  · exact h1
  · unfold Blk at h; rw [Array.getElem?_eq_none h1] at h; cases h
theorem Blk.cell (h : Blk w g t cs) (i : Nat) : w.cell? ⟨g, i, none⟩ = cs[i]? := cell_of_row w g i cs t (0, 0) h
theorem Blk.frozen (h : Blk w g t cs) (i : Nat) : w.frozen? ⟨g, i, none⟩ = false := frozen_of_row w g i cs t h
theorem Blk.new (hg : g = w.heap.size) : Blk (w.alloc (.cells cs t)) g t cs := by subst hg; exact heap_alloc_new w _
theorem Blk.drew (h : Blk w g t cs) : Blk w.drew g t cs := h
theorem Blk.drewN (h : Blk w g t cs) (n : Nat) : Blk (w.drewN n) g t cs := h
theorem Blk.alloc (h : Blk w g t cs) (o : Obj) : Blk (w.alloc o) g t cs := (Below.heap_alloc w o g h.lt).trans h
theorem Blk.set (h : Blk w g t cs) (i : Nat) (u : Value) : Blk (w.setCell ⟨g, i, none⟩ u) g t (cs.setIfInBounds i u) := heap_setCell_same w g i cs t u h
theorem Blk.far (h : Blk w g t cs) {p : Addr} (hp : g ≠ p.block) (u : Value) : Blk (w.setCell p u) g t cs := (Below.heap_setCell w p u g hp).trans h
theorem Blk.below {B : Nat} (h : Blk w g t cs) (hb : Below B w w') (hg : g < B) : Blk w' g t cs := (hb.block g hg).trans h
theorem Blk.ne_ {g' : Nat} {t' : TypeId} {cs' : Array Value} (h : Blk w g t cs) (h' : Blk w g' t' cs') (hne : t ≠ t') : g ≠ g' := by
  rintro rfl
  unfold Blk at h h'
  rw [h] at h'
  injection h' with h'
  injection h' with _ ht
  exact hne ht
theorem Blk.uniq {cs' : Array Value} (h : Blk w g t cs) (h' : Blk w g t cs') : cs = cs' := by
  unfold Blk at h h'
  rw [h] at h'
  injection h' with h'
  injection h'
end

theorem own_below {w w' : World} {base B : Nat} {e : TypeId} {size : Nat} {v : Value} {n : Nat} {xs : List Value} (h : w.ownsRow base e size v n xs) (hb : Below B w w') (hB : w.heap.size ≤ B) : w'.ownsRow base e size v n xs := by
  obtain ⟨h1, h2⟩ := h
  refine ⟨h1, ?_⟩
  rcases h2 with h2 | ⟨g, cap, cur, hv, hg, hh, r⟩
  · exact .inl h2
  · have hl : g < w.heap.size := Blk.lt (t := e) (cs := cur) hh
    exact .inr ⟨g, cap, cur, hv, hg, (hb.block g (by omega)).trans hh, r⟩
theorem own_far {w : World} {base : Nat} {e : TypeId} {size : Nat} {v : Value} {n : Nat} {xs : List Value} (h : w.ownsRow base e size v n xs) {g : Nat} {t : TypeId} {cs : Array Value} (hg : Blk w g t cs) (hne : e ≠ t) (i : Nat) (u : Value) : (w.setCell ⟨g, i, none⟩ u).ownsRow base e size v n xs := by
  obtain ⟨h1, h2⟩ := h
  refine ⟨h1, ?_⟩
  rcases h2 with h2 | ⟨g', cap, cur, hv, hb, hh, r⟩
  · exact .inl h2
  · have : g' ≠ g := Blk.ne_ (t := e) (cs := cur) hh hg hne
    exact .inr ⟨g', cap, cur, hv, hb, (Below.heap_setCell w ⟨g, i, none⟩ u g' this).trans hh, r⟩


theorem Blk.set3 {w : World} {g : Nat} {t : TypeId} {a b c x y z : Value} (h : Blk w g t #[a, b, c]) : Blk (((w.setCell ⟨g, 0, none⟩ x).setCell ⟨g, 1, none⟩ y).setCell ⟨g, 2, none⟩ z) g t #[x, y, z] := by
  simpa using ((h.set 0 x).set 1 y).set 2 z
theorem Blk.set2 {w : World} {g : Nat} {t : TypeId} {a b x y : Value} (h : Blk w g t #[a, b]) : Blk ((w.setCell ⟨g, 0, none⟩ x).setCell ⟨g, 1, none⟩ y) g t #[x, y] := by
  simpa using (h.set 0 x).set 1 y
theorem own_set3 {w : World} {base : Nat} {e : TypeId} {size : Nat} {v : Value} {n : Nat} {xs : List Value} {g : Nat} {t : TypeId} {a b c x y z : Value} (h : w.ownsRow base e size v n xs) (hg : Blk w g t #[a, b, c]) (hne : e ≠ t) :
    (((w.setCell ⟨g, 0, none⟩ x).setCell ⟨g, 1, none⟩ y).setCell ⟨g, 2, none⟩ z).ownsRow base e size v n xs :=
  own_far (own_far (own_far h hg hne 0 x) (hg.set 0 x) hne 1 y) ((hg.set 0 x).set 1 y) hne 2 z


/-- The block of a slice value lies below 'B'. -/
def VBelow (B : Nat) (v : Value) : Prop := ∀ a n c, v = .slice (some a) n c → a.block < B
theorem own_below2 {w w' : World} {base B : Nat} {e : TypeId} {size : Nat} {v : Value} {n : Nat} {xs : List Value} (h : w.ownsRow base e size v n xs) (hb : Below B w w') (hB : VBelow B v) : w'.ownsRow base e size v n xs := by
  obtain ⟨h1, h2⟩ := h
  refine ⟨h1, ?_⟩
  rcases h2 with h2 | ⟨g, cap, cur, hv, hg, hh, r⟩
  · exact .inl h2
  · exact .inr ⟨g, cap, cur, hv, hg, (hb.block g (hB _ _ _ hv)).trans hh, r⟩
theorem own_vbelow {w : World} {base : Nat} {e : TypeId} {size : Nat} {v : Value} {n : Nat} {xs : List Value} (h : w.ownsRow base e size v n xs) : VBelow w.heap.size v := by
  intro a n' c hv
  rcases h.2 with ⟨h1, _⟩ | ⟨g, cap, cur, h1, _, hh, _⟩
  · rw [h1] at hv; injection hv with hv; cases hv
  · rw [h1] at hv
    injection hv with hv
    injection hv with hv
    subst hv
    exact Blk.lt (t := e) (cs := cur) hh


/-- Only block 'g' has turned. -/
structure Only (g : Nat) (w w' : World) : Prop where
  os : w'.os = w.os
  tape : w'.tape = w.tape
  output : w'.output = w.output
  size : w'.heap.size = w.heap.size
  block : ∀ k, k ≠ g → w'.heap[k]? = w.heap[k]?
theorem Only.below {g B : Nat} {w w' : World} (h : Only g w w') (hB : B ≤ g) : Below B w w' := ⟨h.os, h.tape, h.output, Nat.le_of_eq h.size.symm, fun k hk => h.block k (by omega)⟩

/-! ### extents -/
/-- An extent's two cells. -/
def exv (f : Ex) : List Value := [.int .i64 f.at_, .int .i64 f.len]
/-- An extent, by value. -/
def exV (f : Ex) : Value := .agg #[.int .i64 f.at_, .int .i64 f.len]
def Exs (lo hi : Nat) (w : World) (v : Value) (l : List Ex) : Prop := Sl 2 (fun _ cs f => cs = exv f) lo hi w v l
def XsR (lo hi : Nat) (w : World) (v : Value) (x : Xs) : Prop := ∃ b, v = .agg #[.int .i64 x.size, b] ∧ Exs lo hi w b x.free

theorem Exs.keep {lo hi : Nat} {w w' : World} {v : Value} {l : List Ex} (h : Exs lo hi w v l) (k : Agree lo hi w w') : Exs lo hi w' v l := Sl.keep h k fun _ _ hr => hr
theorem Exs.mono {lo lo' hi hi' : Nat} {w : World} {v : Value} {l : List Ex} (h : Exs lo hi w v l) (h1 : lo' ≤ lo) (h2 : hi ≤ hi') : Exs lo' hi' w v l := Sl.mono h h1 h2 fun _ _ hr => hr
theorem Exs.below {lo hi B : Nat} {w w' : World} {v : Value} {l : List Ex} (h : Exs lo hi w v l) (hb : Below B w w') (hB : hi ≤ B) : Exs lo hi w' v l := h.keep (Agree.of_below hb hB)
/-- .. in a world that has grown. -/
theorem Exs.grow {lo : Nat} {w w' : World} {v : Value} {l : List Ex} (h : Exs lo w.heap.size w v l) (hb : Below w.heap.size w w') : Exs lo w'.heap.size w' v l := (h.below hb (Nat.le_refl _)).mono (Nat.le_refl _) hb.size
theorem XsR.below {lo hi B : Nat} {w w' : World} {v : Value} {x : Xs} (h : XsR lo hi w v x) (hb : Below B w w') (hB : hi ≤ B) : XsR lo hi w' v x := by
  obtain ⟨b, rfl, h1⟩ := h; exact ⟨b, rfl, h1.below hb hB⟩
theorem XsR.mono {lo lo' hi hi' : Nat} {w : World} {v : Value} {x : Xs} (h : XsR lo hi w v x) (h1 : lo' ≤ lo) (h2 : hi ≤ hi') : XsR lo' hi' w v x := by
  obtain ⟨b, rfl, g⟩ := h; exact ⟨b, rfl, g.mono h1 h2⟩
theorem XsR.grow {lo : Nat} {w w' : World} {v : Value} {x : Xs} (h : XsR lo w.heap.size w v x) (hb : Below w.heap.size w w') : XsR lo w'.heap.size w' v x := (h.below hb (Nat.le_refl _)).mono (Nat.le_refl _) hb.size
theorem Exs.nil (lo hi : Nat) (w : World) : Exs lo hi w (.slice none 0 0) [] := ⟨none, 0, rfl, by simp, by omega, fun h => absurd h (by simp), fun _ _ e => by cases e⟩

/-- The slice's parts and the cells of each. -/
theorem Exs.open {lo hi : Nat} {w : World} {v : Value} {l : List Ex} (h : Exs lo hi w v l) : ∃ A c, v = .slice A l.length c ∧ l.length ≤ c ∧ c ≤ 9223372036854775807 ∧
    ∀ k (hk : k < l.length), ∃ b off, A = some ⟨b, off, none⟩ ∧ lo ≤ b ∧ b < hi ∧ w.cell? ⟨b, off + k * 2, none⟩ = some (.int .i64 l[k].at_) ∧ w.cell? ⟨b, off + k * 2 + 1, none⟩ = some (.int .i64 l[k].len) := by
  obtain ⟨A, c, rfl, h1, h2, h3, h4⟩ := h
  refine ⟨A, c, rfl, h1, h2, fun k hk => ?_⟩
  obtain ⟨b, off, rfl, hb, hb'⟩ := h3 (by omega)
  obtain ⟨cs, hl, hc, hr⟩ := h4 b off rfl k hk
  refine ⟨b, off, rfl, hb, hb', ?_, ?_⟩
  · have := hc 0 (by omega); simpa [hr, exv] using this
  · have := hc 1 (by omega); simpa [hr, exv] using this
theorem Exs.make {lo hi : Nat} {w : World} {l : List Ex} {b off c : Nat} (h1 : l.length ≤ c) (h2 : c ≤ 9223372036854775807) (hlo : lo ≤ b) (hhi : b < hi)
    (h : ∀ k (hk : k < l.length), w.cell? ⟨b, off + k * 2, none⟩ = some (.int .i64 l[k].at_) ∧ w.cell? ⟨b, off + k * 2 + 1, none⟩ = some (.int .i64 l[k].len)) : Exs lo hi w (.slice (some ⟨b, off, none⟩) l.length c) l := by
  refine ⟨_, c, rfl, h1, h2, fun _ => ⟨b, off, rfl, hlo, hhi⟩, fun b' off' e k hk => ?_⟩
  injection e with e
  injection e with e1 e2
  subst e1 e2
  obtain ⟨c0, c1⟩ := h k hk
  refine ⟨exv l[k], rfl, fun j hj => ?_, rfl⟩
  match j, hj with
  | 0, _ => simpa [exv] using c0
  | 1, _ => simpa [exv] using c1
/-- A part of a slice of extents reads as the part of the list. -/
theorem Exs.sub {lo hi : Nat} {w : World} {b off n c : Nat} {l : List Ex} (h : Exs lo hi w (.slice (some ⟨b, off, none⟩) n c) l) (i j : Nat) (hij : i ≤ j) (hj : j ≤ l.length) (c' : Nat) (h1 : j - i ≤ c') (h2 : c' ≤ 9223372036854775807) :
    Exs lo hi w (.slice (some ⟨b, off + i * 2, none⟩) (j - i) c') ((l.drop i).take (j - i)) := by
  have hlen : ((l.drop i).take (j - i)).length = j - i := by rw [List.length_take, List.length_drop]; omega
  obtain ⟨A, c2, e, g1, g2, g3⟩ := h.open
  injection e with e1 e2 e3
  subst e1 e3
  rcases Nat.eq_or_lt_of_le hij with heq | hlt
  · have h0 : (l.drop i).take (j - i) = [] := by rw [← List.length_eq_zero_iff]; omega
    rw [h0]
    refine ⟨_, c', by rw [show j - i = 0 by omega]; rfl, by simp, h2, fun h => absurd h (by simp), fun _ _ _ k hk => absurd hk (by simp)⟩
  · obtain ⟨b', off', e, q1, q2, _⟩ := g3 0 (by omega)
    injection e with e
    injection e with e1 e2
    subst e1 e2
    have := Exs.make (lo := lo) (hi := hi) (w := w) (l := (l.drop i).take (j - i)) (b := b) (off := off + i * 2) (c := c') (by omega) h2 q1 q2 fun k hk => by
      rw [hlen] at hk
      obtain ⟨b', off', e, _, _, c0, c1⟩ := g3 (i + k) (by omega)
      injection e with e
      injection e with e1 e2
      subst e1 e2
      rw [List.getElem_take, List.getElem_drop, show off + i * 2 + k * 2 = off + (i + k) * 2 by omega]
      exact ⟨c0, c1⟩
    rwa [hlen] at this
theorem flat_len (l : List Ex) : (l.flatMap exv).length = l.length * 2 := by
  induction l with
  | nil => rfl
  | cons f r ih => simp [exv] at ih ⊢; omega
theorem flat_get (l : List Ex) (k : Nat) (hk : k < l.length) : (l.flatMap exv)[k * 2]? = some (.int .i64 l[k].at_) ∧ (l.flatMap exv)[k * 2 + 1]? = some (.int .i64 l[k].len) := by
  induction l generalizing k with
  | nil => simp at hk
  | cons f r ih =>
    cases k with
    | zero => simp [exv]
    | succ k =>
      have := ih k (by simpa using hk)
      rw [List.flatMap_cons, show exv f = [.int .i64 f.at_, .int .i64 f.len] from rfl, show (k + 1) * 2 = k * 2 + 2 by omega]
      simpa using this
theorem flat_one (l : List Ex) : ∀ u ∈ l.flatMap exv, u.oneCell' = true := by
  intro u hu
  obtain ⟨f, _, h⟩ := List.mem_flatMap.1 hu
  simp [exv] at h
  rcases h with rfl | rfl <;> rfl
/-- Extents out of a row that the call owns. -/
theorem Exs.of_own {w : World} {base : Nat} {e : TypeId} {v : Value} {l : List Ex} (h : w.ownsRow base e 2 v l.length (l.flatMap exv)) : Exs base w.heap.size w v l := by
  rcases h.2 with ⟨rfl, h0⟩ | ⟨g, cap, cur, rfl, hb, hg, hnc, hcm, hcs, htake⟩
  · obtain rfl : l = [] := List.eq_nil_of_length_eq_zero h0
    exact Exs.nil _ _ _
  · refine Exs.make hnc (by simpa [maxLen] using hcm) hb (Blk.lt (t := e) (cs := cur) hg) fun k hk => ?_
    have hcell := fun j (hj : j < l.length * 2) => World.ownsRow.cellAt (w := w) (base := base) (e := e) (size := 2) (g := g) (n := l.length) (cap := cap) (xs := l.flatMap exv) h j hj
    obtain ⟨c0, c1⟩ := flat_get l k hk
    exact ⟨by rw [Nat.zero_add, hcell _ (by omega)]; exact c0, by rw [Nat.zero_add, hcell _ (by omega)]; exact c1⟩
/-- Extents as the source of an append. -/
theorem Exs.src {lo hi : Nat} {w : World} {A : Option Addr} {n c : Nat} {l : List Ex} (h : Exs lo hi w (.slice A n c) l) : n = l.length ∧ SrcOk w A n (l.flatMap exv) := by
  obtain ⟨A', c', e, _, _, h3⟩ := h.open
  injection e with e1 e2 e3
  subst e1 e2 e3
  refine ⟨rfl, fun h0 => ?_⟩
  obtain ⟨b, off, rfl, _, _, _⟩ := h3 0 h0
  refine ⟨_, rfl, fun j u hu => ?_⟩
  have hj : j < l.length * 2 := by
    have := (List.getElem?_eq_some_iff.1 hu).1
    rwa [flat_len] at this
  obtain ⟨b', off', e, _, _, c0, c1⟩ := h3 (j / 2) (by omega)
  injection e with e
  injection e with e1 e2
  subst e1 e2
  obtain ⟨d0, d1⟩ := flat_get l (j / 2) (by omega)
  have key : w.cell? ⟨b, off + j, none⟩ = some u := by
    rcases Nat.mod_two_eq_zero_or_one j with h2 | h2
    · have e : j = j / 2 * 2 := by omega
      rw [← e] at c0 d0
      rw [d0] at hu
      rw [c0, ← hu]
    · have e : j = j / 2 * 2 + 1 := by omega
      rw [Nat.add_assoc, ← e] at c1
      rw [← e] at d1
      rw [d1] at hu
      rw [c1, ← hu]
  unfold Addr.add
  split
  · rename_i h0; subst h0; exact key
  · exact key
end Go.Proofs.Yteokimebfbnlkaa
