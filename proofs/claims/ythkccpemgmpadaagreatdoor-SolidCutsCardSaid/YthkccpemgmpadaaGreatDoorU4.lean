import Derived.Test.YthkccpemgmpadaaGreatDoorProg
import Derived.Test.YthkccpemgmpadaaGreatDoorU3
import Derived.WalkKit
import Derived.Handy
import Derived.Lib.SliceRun
import Derived.WalkSpells
import Derived.WalkLawsBesides
import Derived.Lib.Hide
import Derived.Deep.QuietTactic
import Derived.BigQuiet
import Derived.Deep.RegionHeld3
import Derived.Laws.CopyOwn
import Derived.Deep.AppendLies
import Derived.Deep.LoopGhost
import Derived.StillTailTactics
import Derived.Lib.AppendZerosOnto
import Derived.Lib.Bytes
import Derived.Lib.AppendZeros
import Derived.Deep.DeepCutAuto
import Derived.Laws.MathBits
namespace Go.Proofs.YthkccpemgmpadaaGreatDoor.P
set_option maxRecDepth 100000
open Go.RowKit
def Rd {α : Type} (k : Nat) (f : α → List Value) (lo hi : Nat) (w : World) (v : Value) (l : List α) : Prop :=
  ∃ A c, v = .slice A l.length c ∧ l.length ≤ c ∧ c ≤ 9223372036854775807 ∧
    (0 < l.length → ∃ b off, A = some ⟨b, off, none⟩ ∧ lo ≤ b ∧ b < hi ∧ ∀ i (h : i < l.length) j u, (f l[i])[j]? = some u → w.cell? ⟨b, off + i * k + j, none⟩ = some u)
def Agree (lo hi : Nat) (w w' : World) : Prop := ∀ k, lo ≤ k → k < hi → w'.heap[k]? = w.heap[k]?
theorem Agree.of_below {lo hi B : Nat} {w w' : World} (h : Below B w w') (hb : hi ≤ B) : Agree lo hi w w' := fun k _ hk => h.block k (by omega)
theorem Agree.refl (lo hi : Nat) (w : World) : Agree lo hi w w := fun _ _ _ => rfl
section
variable {α : Type} {k : Nat} {f : α → List Value} {lo hi : Nat} {w w' : World} {v : Value} {l : List α}
theorem Rd.keep (h : Rd k f lo hi w v l) (ha : Agree lo hi w w') : Rd k f lo hi w' v l := by
  obtain ⟨A, c, rfl, h1, h2, h3⟩ := h
  refine ⟨A, c, rfl, h1, h2, fun h0 => ?_⟩
  obtain ⟨b, off, rfl, hb, hb', hc⟩ := h3 h0
  exact ⟨b, off, rfl, hb, hb', fun i hi j u hu => (World.cell?_of_block (ha b hb hb')).trans (hc i hi j u hu)⟩
theorem Rd.mono {lo' hi' : Nat} (h : Rd k f lo hi w v l) (h1 : lo' ≤ lo) (h2 : hi ≤ hi') : Rd k f lo' hi' w v l := by
  obtain ⟨A, c, rfl, a1, a2, h3⟩ := h
  refine ⟨A, c, rfl, a1, a2, fun h0 => ?_⟩
  obtain ⟨b, off, rfl, hb, hb', hc⟩ := h3 h0
  exact ⟨b, off, rfl, by omega, by omega, hc⟩
theorem Rd.below {B : Nat} (h : Rd k f lo hi w v l) (hb : Below B w w') (hB : hi ≤ B) : Rd k f lo hi w' v l := h.keep (Agree.of_below hb hB)
theorem Rd.grow (h : Rd k f lo w.heap.size w v l) (hb : Below w.heap.size w w') : Rd k f lo w'.heap.size w' v l := (h.below hb (Nat.le_refl _)).mono (Nat.le_refl _) hb.size
theorem Rd.nil (k : Nat) (f : α → List Value) (lo hi : Nat) (w : World) : Rd k f lo hi w (.slice none 0 0) [] := ⟨none, 0, rfl, by simp, by omega, fun h => absurd h (by simp)⟩
theorem flat_len (hf : ∀ x, (f x).length = k) (l : List α) : (l.flatMap f).length = l.length * k := by
  induction l with
  | nil => simp
  | cons x r ih => rw [List.flatMap_cons, List.length_append, ih, hf, List.length_cons, Nat.add_mul]; omega
theorem flat_get (hf : ∀ x, (f x).length = k) (l : List α) (i : Nat) (h : i < l.length) (j : Nat) (hj : j < k) : (l.flatMap f)[i * k + j]? = (f l[i])[j]? := by
  induction l generalizing i with
  | nil => simp at h
  | cons x r ih =>
    rw [List.flatMap_cons]
    cases i with
    | zero => rw [Nat.zero_mul, Nat.zero_add, List.getElem?_append_left (by rw [hf]; exact hj)]; rfl
    | succ i =>
      rw [List.getElem?_append_right (by rw [hf, Nat.add_mul]; omega), hf, show (i + 1) * k + j - k = i * k + j by rw [Nat.add_mul]; omega]
      exact ih i (by simpa using h)
theorem Rd.of_own {base n : Nat} {e : TypeId} (hf : ∀ x, (f x).length = k) (hk : 0 < k) (h : w.ownsRow base e k v n (l.flatMap f)) : Rd k f base w.heap.size w v l := by
  have hn : l.length = n := by
    have h1 := h.1
    rw [flat_len hf] at h1
    exact Nat.eq_of_mul_eq_mul_right hk h1
  subst hn
  rcases h.2 with ⟨rfl, h0⟩ | ⟨g, cap, cur, rfl, hb, hg, hnc, hcm, hcs, htake⟩
  · obtain rfl : l = [] := List.eq_nil_of_length_eq_zero h0
    exact Rd.nil _ _ _ _ _
  · have hlt : g < w.heap.size := by
      rcases Nat.lt_or_ge g w.heap.size with h1 | h1
      · exact h1
      · rw [Array.getElem?_eq_none h1] at hg; cases hg
    refine ⟨_, cap, rfl, hnc, by simpa [maxLen] using hcm, fun _ => ⟨g, 0, rfl, hb, hlt, fun i hi j u hu => ?_⟩⟩
    have hj : j < k := by rw [← hf l[i]]; exact (List.getElem?_eq_some_iff.1 hu).1
    have hm : i * k + j < l.length * k := by
      have : (i + 1) * k ≤ l.length * k := Nat.mul_le_mul_right k (by omega)
      rw [Nat.add_mul] at this; omega
    have hc := World.ownsRow.cellAt (w := w) (base := base) (e := e) (size := k) (g := g) (n := l.length) (cap := cap) (xs := l.flatMap f) h (i * k + j) hm
    rw [Nat.zero_add, hc, flat_get hf l i hi j hj, hu]
end
theorem bl_alloc {a w : World} (h : Below a.heap.size a w) (o : Obj) : Below a.heap.size a (w.alloc o) := h.alloc h.size o
theorem bl_call {a w w' : World} (h : Below a.heap.size a w) (h' : Below w.heap.size w w') : Below a.heap.size a w' := h.trans (h'.mono h.size)
theorem bl_grown {a w w' : World} {row : Option Nat} (h : Below a.heap.size a w) (hg : w.grownBy w' row) (hr : ∀ k, row = some k → a.heap.size ≤ k) : Below a.heap.size a w' := h.grown hg h.size hr
theorem bcell {W w1 : World} (hb : Below W.heap.size W w1) : (∀ b o, b < W.heap.size → w1.cell? ⟨b, o, none⟩ = W.cell? ⟨b, o, none⟩) ∧ (∀ b o, b < W.heap.size → w1.frozen? ⟨b, o, none⟩ = W.frozen? ⟨b, o, none⟩) :=
  ⟨fun b o h => hb.cell (p := ⟨b, o, none⟩) h, fun b o h => hb.frozen (p := ⟨b, o, none⟩) h⟩
theorem hide {p : Prop} (h : p) : Hid p := h
theorem unhide {p : Prop} (h : Hid p) : p := h
theorem ret_b {v : Value} {b b' : Bool} (h : v = .bool b) (e : b = b') : Ending.returned v = .returned (.bool b') := by rw [h, e]
theorem ret_i {v : Value} {k : IntKind} {b b' : Int} (h : v = .int k b) (e : b = b') : Ending.returned v = .returned (.int k b') := by rw [h, e]
def SrcOk (w : World) (A : Option Addr) (m : Nat) (news : List Value) : Prop := 0 < m → ∃ ad, A = some ad ∧ ∀ j u, news[j]? = some u → w.cell? (ad.add j) = some u
theorem SrcOk.below {w w' : World} {A : Option Addr} {m : Nat} {news : List Value} (h : SrcOk w A m news) (hb : Below w.heap.size w w') : SrcOk w' A m news := fun h0 => by
  obtain ⟨ad, e, hc⟩ := h h0
  exact ⟨ad, e, fun j u hu => (hb.cell (World.block_lt_of_cell? w _ (hc j u hu))).trans (hc j u hu)⟩
section
variable {P : Program} (w : World)
theorem run_app (base : Nat) (t ty e : TypeId) (i : TypeInfo) (z : Value) (size bytes : Nat) (ht : P.underlying t = some (.slice e)) (hi : P.info? e = some i) (hz : i.zero = some z)
    (hsize : i.size = size) (hby : i.bytes = bytes) (hzs : z.cells.size = size) (hsz : 0 < size)
    (v : Value) (n : Nat) (xs : List Value) (hown : w.ownsRow base e size v n xs)
    (A : Option Addr) (m c : Nat) (news : List Value) (hl : news.length = m * size) (hr : SrcOk w A m news) (h1 : ∀ u ∈ news, u.oneCell' = true)
    (h63 : n + m ≤ maxLen) (hbytes : (n + m) * bytes ≤ 140737488355328) (hbase : base ≤ w.heap.size) :
    ∃ v' w', (Builtin.append_ #[t, t] ty #[v, .slice A m c]).run P w = .ok v' w' ∧ w'.ownsRow base e size v' (n + m) (xs ++ news) ∧ w.grownBy w' v.ownBlock := by
  rcases Nat.eq_zero_or_pos m with rfl | hm
  · have hn : news = [] := List.eq_nil_of_length_eq_zero (by simpa using hl)
    subst hn
    rcases A with _ | ad
    · refine ⟨v, w, ?_, by simpa using hown, World.grownBy.refl w _⟩
      rcases hown.2 with ⟨rfl, rfl⟩ | ⟨g, cap, cur, rfl, _, _, hnc, _⟩
      · simp [Builtin.append_, run_underlying ht, sizeOf, typeInfo, hi, Builtin.lenOf, Builtin.firstCells]
      · simp [Builtin.append_, run_underlying ht, sizeOf, typeInfo, hi, Builtin.lenOf, Builtin.firstCells, hnc, storeCells]
    · obtain ⟨v', w', a, b, c', _⟩ := run_append_own (P := P) w base t ty e i z size bytes ht hi hz hsize hby hzs hsz v n xs hown ad 0 c [] hl (by simp) h1 h63 hbytes hbase
      exact ⟨v', w', a, b, c'⟩
  · obtain ⟨ad, rfl, hc⟩ := hr hm
    obtain ⟨v', w', a, b, c', _⟩ := run_append_own (P := P) w base t ty e i z size bytes ht hi hz hsize hby hzs hsz v n xs hown ad m c news hl hc h1 h63 hbytes hbase
    exact ⟨v', w', a, b, c'⟩
theorem wp_app {o : Oper} {a : Act} {K : Act → World → Prop} {Q : Exit → Act → World → Prop} (s x : Operand) (t : TypeId)
    (ho : o.op = .call { callee := .builtin .append, args := #[s, x], argTypes := #[t, t] })
    (base : Nat) (e : TypeId) (i : TypeInfo) (z : Value) (size bytes : Nat) (ht : P.underlying t = some (.slice e)) (hi : P.info? e = some i) (hz : i.zero = some z)
    (hsize : i.size = size) (hby : i.bytes = bytes) (hzs : z.cells.size = size) (hsz : 0 < size)
    (v : Value) (n : Nat) (xs : List Value) (hs : a.eval s = v) (hown : w.ownsRow base e size v n xs)
    (A : Option Addr) (m c : Nat) (news : List Value) (hx : a.eval x = .slice A m c) (hl : news.length = m * size) (hr : SrcOk w A m news) (h1 : ∀ u ∈ news, u.oneCell' = true)
    (h63 : n + m ≤ maxLen) (hbytes : (n + m) * bytes ≤ 140737488355328) (hbase : base ≤ w.heap.size)
    (h : ∀ v' w', w'.ownsRow base e size v' (n + m) (xs ++ news) → w.grownBy w' v.ownBlock → K (a.put o.dst v') w') : o.wp P a w K Q := by
  obtain ⟨v', w', hr, h2, h3⟩ := run_app (P := P) w base t o.type e i z size bytes ht hi hz hsize hby hzs hsz v n xs hown A m c news hl hr h1 h63 hbytes hbase
  unfold Oper.wp execOp
  simp only [ho, resolve, invoke, builtin, Sem.run_bind, Sem.run_pure, Result.andThen_ok, List.map_toArray, List.map_cons, List.map_nil, hs, hx, hr]
  exact h v' w' h2 h3
theorem wpList_app {ops : Array Oper} {rest : List Oper} {o : Oper} {a : Act} {Q : Exit → Act → World → Prop} (hgd : o.guard = none) (s x : Operand) (t : TypeId)
    (ho : o.op = .call { callee := .builtin .append, args := #[s, x], argTypes := #[t, t] })
    (base : Nat) (e : TypeId) (i : TypeInfo) (z : Value) (size bytes : Nat) (ht : P.underlying t = some (.slice e)) (hi : P.info? e = some i) (hz : i.zero = some z)
    (hsize : i.size = size) (hby : i.bytes = bytes) (hzs : z.cells.size = size) (hsz : 0 < size)
    (v : Value) (n : Nat) (xs : List Value) (hs : a.eval s = v) (hown : w.ownsRow base e size v n xs)
    (A : Option Addr) (m c : Nat) (news : List Value) (hx : a.eval x = .slice A m c) (hl : news.length = m * size) (hr : SrcOk w A m news) (h1 : ∀ u ∈ news, u.oneCell' = true)
    (h63 : n + m ≤ maxLen) (hbytes : (n + m) * bytes ≤ 140737488355328) (hbase : base ≤ w.heap.size)
    (h : ∀ v' w', w'.ownsRow base e size v' (n + m) (xs ++ news) → w.grownBy w' v.ownBlock → wpList P ops Q rest (a.put o.dst v') w') : wpList P ops Q (o :: rest) a w :=
  wpList_plain hgd fun _ hK => wp_app w s x t ho base e i z size bytes ht hi hz hsize hby hzs hsz v n xs hs hown A m c news hx hl hr h1 h63 hbytes hbase fun v' w' h2 h3 => hK _ _ (h v' w' h2 h3)
end
theorem run_mk {P : Program} (t e : TypeId) (i : TypeInfo) (z : Value) (size : Nat) (ht : P.underlying t = some (.slice e)) (hi : P.info? e = some i) (hz : i.zero = some z) (hsize : i.size = size)
    (n : Nat) (hbytes : i.bytes * n ≤ 281474976710656) (h63 : n ≤ 9223372036854775807) (W : World) :
    (Instr.makeSlice t (.int .i64 (n : Int)) (.int .i64 (n : Int))).run P W = .ok (.slice (some ⟨W.heap.size, 0, none⟩) n n) (W.alloc (.cells (madeCells z.cells (n * size)) e)) := by
  subst hsize
  have hb' : (i.bytes : Int) * (n : Int) ≤ 281474976710656 := by
    have h : ((i.bytes * n : Nat) : Int) ≤ 281474976710656 := by omega
    rwa [Int.natCast_mul] at h
  have hr := run_make (P := P) W t e i z ht hi hz .i64 .i64 n n (by omega) (Int.le_refl _) hb' (by omega)
  simp only [Int.toNat_natCast] at hr
  exact hr
theorem ownsRow_len {w : World} {base : Nat} {e : TypeId} {size : Nat} {v : Value} {n : Nat} {xs : List Value} (h : w.ownsRow base e size v n xs) : xs.length = n * size := h.1
theorem ownsRow_mono {w : World} {base base' : Nat} {e : TypeId} {size : Nat} {v : Value} {n : Nat} {xs : List Value} (h : w.ownsRow base e size v n xs) (hb : base' ≤ base) : w.ownsRow base' e size v n xs := by
  obtain ⟨h1, h2⟩ := h
  refine ⟨h1, ?_⟩
  rcases h2 with h2 | ⟨g, cap, cur, hv, hg, r⟩
  · exact .inl h2
  · exact .inr ⟨g, cap, cur, hv, by omega, r⟩
theorem ownsRow_form {w : World} {base : Nat} {e : TypeId} {size : Nat} {v : Value} {n : Nat} {xs : List Value} (h : w.ownsRow base e size v n xs) : ∃ A c, v = .slice A n c := by
  rcases h.2 with ⟨rfl, rfl⟩ | ⟨g, cap, cur, rfl, _⟩
  · exact ⟨_, _, rfl⟩
  · exact ⟨_, _, rfl⟩
theorem ownsRow_setCell' {w : World} {base : Nat} {e : TypeId} {size : Nat} {v : Value} {n : Nat} {xs : List Value} (h : w.ownsRow base e size v n xs) {a : Addr} (ha : a.block < base) (u : Value) : (w.setCell a u).ownsRow base e size v n xs :=
  ownsRow_setCell_below h ha u
theorem Rd.src {α : Type} {k : Nat} {f : α → List Value} {lo hi : Nat} {w : World} {A : Option Addr} {n c : Nat} {l : List α} (hf : ∀ x, (f x).length = k) (h : Rd k f lo hi w (.slice A n c) l) : n = l.length ∧ SrcOk w A n (l.flatMap f) := by
  obtain ⟨A', c', e, _, _, h3⟩ := h
  injection e with e1 e2 e3
  subst e1 e2 e3
  refine ⟨rfl, fun h0 => ?_⟩
  obtain ⟨b, off, rfl, _, _, hc⟩ := h3 h0
  refine ⟨_, rfl, fun m u hu => ?_⟩
  have hm : m < (l.flatMap f).length := (List.getElem?_eq_some_iff.1 hu).1
  rw [flat_len hf] at hm
  have hk : 0 < k := by rcases Nat.eq_zero_or_pos k with h | h; (· subst h; omega); exact h
  have hi : m / k < l.length := Nat.div_lt_of_lt_mul (by rw [Nat.mul_comm]; exact hm)
  have hj : m % k < k := Nat.mod_lt _ hk
  have e : m / k * k + m % k = m := Nat.div_add_mod' m k
  have := hc (m / k) hi (m % k) u (by rw [← flat_get hf l _ hi _ hj, e]; exact hu)
  rw [Nat.add_assoc, e] at this
  unfold Addr.add
  split
  · rename_i h0; subst h0; simpa using this
  · exact this
theorem flat_one {α : Type} {f : α → List Value} (h1 : ∀ x, ∀ u ∈ f x, u.oneCell' = true) (l : List α) : ∀ u ∈ l.flatMap f, u.oneCell' = true := by
  intro u hu
  obtain ⟨x, _, h⟩ := List.mem_flatMap.1 hu
  exact h1 x u h
def Blk (w : World) (g : Nat) (t : TypeId) (cs : Array Value) : Prop := w.heap[g]? = some (.cells cs t (0, 0))
section
variable {w w' : World} {g : Nat} {t : TypeId} {cs : Array Value}
theorem Blk.lt (h : Blk w g t cs) : g < w.heap.size := by
  rcases Nat.lt_or_ge g w.heap.size with h1 | h1
  · exact h1
  · unfold Blk at h; rw [Array.getElem?_eq_none h1] at h; cases h
theorem Blk.cell (h : Blk w g t cs) (i : Nat) : w.cell? ⟨g, i, none⟩ = cs[i]? := cell_of_row w g i cs t (0, 0) h
theorem Blk.frozen (h : Blk w g t cs) (i : Nat) : w.frozen? ⟨g, i, none⟩ = false := frozen_of_row w g i cs t h
theorem Blk.new (hg : g = w.heap.size) : Blk (w.alloc (.cells cs t)) g t cs := by subst hg; exact heap_alloc_new w _
theorem Blk.drew (h : Blk w g t cs) : Blk w.drew g t cs := h
theorem Blk.drewN (h : Blk w g t cs) (n : Nat) : Blk (w.drewN n) g t cs := h
theorem Blk.alloc (h : Blk w g t cs) (o : Obj) : Blk (w.alloc o) g t cs := (Below.heap_alloc w o g h.lt).trans h
theorem Blk.set (h : Blk w g t cs) (i : Nat) (u : Value) : Blk (w.setCell ⟨g, i, none⟩ u) g t (cs.setIfInBounds i u) := heap_setCell_same w g i cs t u h
theorem Blk.far (h : Blk w g t cs) {p : Addr} (hp : g ≠ p.block) (u : Value) : Blk (w.setCell p u) g t cs := (Below.heap_setCell w p u g hp).trans h
theorem Blk.below {B : Nat} (h : Blk w g t cs) (hb : Below B w w') (hg : g < B) : Blk w' g t cs := (hb.block g hg).trans h
theorem Blk.ne_ {g' : Nat} {t' : TypeId} {cs' : Array Value} (h : Blk w g t cs) (h' : Blk w g' t' cs') (hne : t ≠ t') : g ≠ g' := by
  rintro rfl
  unfold Blk at h h'
  rw [h] at h'
  injection h' with h'
  injection h' with _ ht
  exact hne ht
theorem Blk.uniq {cs' : Array Value} (h : Blk w g t cs) (h' : Blk w g t cs') : cs = cs' := by
  unfold Blk at h h'
  rw [h] at h'
  injection h' with h'
  injection h'
end
theorem own_below {w w' : World} {base B : Nat} {e : TypeId} {size : Nat} {v : Value} {n : Nat} {xs : List Value} (h : w.ownsRow base e size v n xs) (hb : Below B w w') (hB : w.heap.size ≤ B) : w'.ownsRow base e size v n xs := by
  obtain ⟨h1, h2⟩ := h
  refine ⟨h1, ?_⟩
  rcases h2 with h2 | ⟨g, cap, cur, hv, hg, hh, r⟩
  · exact .inl h2
  · have hl : g < w.heap.size := Blk.lt (t := e) (cs := cur) hh
    exact .inr ⟨g, cap, cur, hv, hg, (hb.block g (by omega)).trans hh, r⟩
theorem own_far {w : World} {base : Nat} {e : TypeId} {size : Nat} {v : Value} {n : Nat} {xs : List Value} (h : w.ownsRow base e size v n xs) {g : Nat} {t : TypeId} {cs : Array Value} (hg : Blk w g t cs) (hne : e ≠ t) (i : Nat) (u : Value) : (w.setCell ⟨g, i, none⟩ u).ownsRow base e size v n xs := by
  obtain ⟨h1, h2⟩ := h
  refine ⟨h1, ?_⟩
  rcases h2 with h2 | ⟨g', cap, cur, hv, hb, hh, r⟩
  · exact .inl h2
  · have : g' ≠ g := Blk.ne_ (t := e) (cs := cur) hh hg hne
    exact .inr ⟨g', cap, cur, hv, hb, (Below.heap_setCell w ⟨g, i, none⟩ u g' this).trans hh, r⟩
theorem Blk.set3 {w : World} {g : Nat} {t : TypeId} {a b c x y z : Value} (h : Blk w g t #[a, b, c]) : Blk (((w.setCell ⟨g, 0, none⟩ x).setCell ⟨g, 1, none⟩ y).setCell ⟨g, 2, none⟩ z) g t #[x, y, z] := by
  simpa using ((h.set 0 x).set 1 y).set 2 z
theorem Blk.set2 {w : World} {g : Nat} {t : TypeId} {a b x y : Value} (h : Blk w g t #[a, b]) : Blk ((w.setCell ⟨g, 0, none⟩ x).setCell ⟨g, 1, none⟩ y) g t #[x, y] := by
  simpa using (h.set 0 x).set 1 y
def VBelow (B : Nat) (v : Value) : Prop := ∀ a n c, v = .slice (some a) n c → a.block < B
theorem own_vbelow {w : World} {base : Nat} {e : TypeId} {size : Nat} {v : Value} {n : Nat} {xs : List Value} (h : w.ownsRow base e size v n xs) : VBelow w.heap.size v := by
  intro a n' c hv
  rcases h.2 with ⟨h1, _⟩ | ⟨g, cap, cur, h1, _, hh, _⟩
  · rw [h1] at hv; injection hv with hv; cases hv
  · rw [h1] at hv
    injection hv with hv
    injection hv with hv
    subst hv
    exact Blk.lt (t := e) (cs := cur) hh
structure Only (g : Nat) (w w' : World) : Prop where
  os : w'.os = w.os
  tape : w'.tape = w.tape
  output : w'.output = w.output
  size : w'.heap.size = w.heap.size
  block : ∀ k, k ≠ g → w'.heap[k]? = w.heap[k]?
theorem Only.below {g B : Nat} {w w' : World} (h : Only g w w') (hB : B ≤ g) : Below B w w' := ⟨h.os, h.tape, h.output, Nat.le_of_eq h.size.symm, fun k hk => h.block k (by omega)⟩
def ivc (z : Int) : List Value := [.int .i64 z]
def bvc (b : Bool) : List Value := [.bool b]
def btc (x : Bit) : List Value := [.int .i64 x.at_, .bool x.b]
abbrev btV (x : Bit) : Value := .agg #[.int .i64 x.at_, .bool x.b]
abbrev Is (lo hi : Nat) (w : World) (v : Value) (l : List Int) : Prop := Rd 1 ivc lo hi w v l
abbrev Bos (lo hi : Nat) (w : World) (v : Value) (l : List Bool) : Prop := Rd 1 bvc lo hi w v l
abbrev Bts (lo hi : Nat) (w : World) (v : Value) (l : List Bit) : Prop := Rd 2 btc lo hi w v l
theorem ivc_len : ∀ x, (ivc x).length = 1 := fun _ => rfl
theorem bvc_len : ∀ x, (bvc x).length = 1 := fun _ => rfl
theorem btc_len : ∀ x, (btc x).length = 2 := fun _ => rfl
theorem ivc_one : ∀ x, ∀ u ∈ ivc x, u.oneCell' = true := by intro x u h; simp [ivc] at h; subst h; rfl
theorem btc_one : ∀ x, ∀ u ∈ btc x, u.oneCell' = true := by intro x u h; simp [btc] at h; rcases h with rfl | rfl <;> rfl
theorem Rd.open1 {α : Type} {f : α → List Value} {lo hi : Nat} {w : World} {v : Value} {l : List α} (h : Rd 1 f lo hi w v l) : ∃ A c, v = .slice A l.length c ∧ l.length ≤ c ∧ c ≤ 9223372036854775807 ∧
    ∀ i (hi' : i < l.length), ∃ b off, A = some ⟨b, off, none⟩ ∧ lo ≤ b ∧ b < hi ∧ ∀ u, (f l[i])[0]? = some u → w.cell? ⟨b, off + i, none⟩ = some u := by
  obtain ⟨A, c, rfl, h1, h2, h3⟩ := h
  refine ⟨A, c, rfl, h1, h2, fun i hi => ?_⟩
  obtain ⟨b, off, rfl, g1, g2, g3⟩ := h3 (by omega)
  exact ⟨b, off, rfl, g1, g2, fun u hu => by simpa using g3 i hi 0 u hu⟩
theorem Is.open {lo hi : Nat} {w : World} {v : Value} {l : List Int} (h : Is lo hi w v l) : ∃ A c, v = .slice A l.length c ∧ l.length ≤ c ∧ c ≤ 9223372036854775807 ∧
    ∀ i (hi' : i < l.length), ∃ b off, A = some ⟨b, off, none⟩ ∧ lo ≤ b ∧ b < hi ∧ w.cell? ⟨b, off + i, none⟩ = some (.int .i64 l[i]) := by
  obtain ⟨A, c, e, h1, h2, h3⟩ := h.open1
  exact ⟨A, c, e, h1, h2, fun i hi => by obtain ⟨b, off, e, g1, g2, g3⟩ := h3 i hi; exact ⟨b, off, e, g1, g2, g3 _ rfl⟩⟩
theorem Bos.open {lo hi : Nat} {w : World} {v : Value} {l : List Bool} (h : Bos lo hi w v l) : ∃ A c, v = .slice A l.length c ∧ l.length ≤ c ∧ c ≤ 9223372036854775807 ∧
    ∀ i (hi' : i < l.length), ∃ b off, A = some ⟨b, off, none⟩ ∧ lo ≤ b ∧ b < hi ∧ w.cell? ⟨b, off + i, none⟩ = some (.bool l[i]) := by
  obtain ⟨A, c, e, h1, h2, h3⟩ := h.open1
  exact ⟨A, c, e, h1, h2, fun i hi => by obtain ⟨b, off, e, g1, g2, g3⟩ := h3 i hi; exact ⟨b, off, e, g1, g2, g3 _ rfl⟩⟩
theorem Bts.open {lo hi : Nat} {w : World} {v : Value} {l : List Bit} (h : Bts lo hi w v l) : ∃ A c, v = .slice A l.length c ∧ l.length ≤ c ∧ c ≤ 9223372036854775807 ∧
    ∀ i (hi' : i < l.length), ∃ b off, A = some ⟨b, off, none⟩ ∧ lo ≤ b ∧ b < hi ∧ w.cell? ⟨b, off + i * 2, none⟩ = some (.int .i64 l[i].at_) ∧ w.cell? ⟨b, off + i * 2 + 1, none⟩ = some (.bool l[i].b) := by
  obtain ⟨A, c, rfl, h1, h2, h3⟩ := h
  refine ⟨A, c, rfl, h1, h2, fun i hi => ?_⟩
  obtain ⟨b, off, rfl, g1, g2, g3⟩ := h3 (by omega)
  exact ⟨b, off, rfl, g1, g2, by simpa using g3 i hi 0 _ rfl, by simpa using g3 i hi 1 _ rfl⟩
theorem Is.of_blk {w : World} {g c : Nat} {l : List Int} (h : Blk w g 3 (l.flatMap ivc).toArray) (hc : c = l.length) (hl : l.length ≤ 9223372036854775807) (n : Nat) (hn : n = l.length) : Is 0 w.heap.size w (.slice (some ⟨g, 0, none⟩) n c) l := by
  subst hc hn
  refine ⟨_, _, rfl, Nat.le_refl _, hl, fun _ => ⟨g, 0, rfl, Nat.zero_le _, h.lt, fun i hi j u hu => ?_⟩⟩
  have hj : j < 1 := (List.getElem?_eq_some_iff.1 hu).1
  rw [h.cell, Nat.zero_add]
  have := flat_get ivc_len l i hi j hj
  simp at this ⊢
  rw [this, hu]
theorem own_fresh (w : World) (base g : Nat) (e : TypeId) (size c : Nat) (cs : Array Value) (hg : g = w.heap.size) (hb : base ≤ w.heap.size) (hc : c ≤ maxLen) (hs : cs.size = c * size) :
    (w.alloc (.cells cs e)).ownsRow base e size (.slice (some ⟨g, 0, none⟩) 0 c) 0 [] := by
  subst hg
  exact ⟨by simp, .inr ⟨w.heap.size, c, cs, rfl, hb, heap_alloc_new w _, Nat.zero_le _, hc, hs, by simp⟩⟩
theorem own_drew {w : World} {base : Nat} {e : TypeId} {size : Nat} {v : Value} {n : Nat} {xs : List Value} (h : w.ownsRow base e size v n xs) : w.drew.ownsRow base e size v n xs := h
theorem own_base {w : World} {base : Nat} {e : TypeId} {size : Nat} {v : Value} {n : Nat} {xs : List Value} (h : w.ownsRow base e size v n xs) : ∀ k, v.ownBlock = some k → base ≤ k := by
  intro k hk
  rcases h.2 with ⟨rfl, _⟩ | ⟨g, cap, cur, rfl, hb, _⟩
  · simp [Value.ownBlock] at hk
  · simp [Value.ownBlock] at hk; omega
theorem info3 : (Tryz.prog.info? 3).map (fun i => (i.zero, i.size, i.bytes)) = some (some (.int .i64 0), 1, 8) := by kernel_rfl
theorem info51 : (Tryz.prog.info? 121).map (fun i => (i.zero, i.size, i.bytes)) = some (some (.agg #[.int .i64 0, .bool false]), 2, 16) := by kernel_rfl
end Go.Proofs.YthkccpemgmpadaaGreatDoor.P
namespace Go.Proofs.YthkccpemgmpadaaGreatDoor.P
set_option maxRecDepth 100000
open Go.RowKit
theorem Blk.only {g g' : Nat} {t : TypeId} {cs : Array Value} {w w' : World} (h : Blk w g' t cs) (ho : Only g w w') (hne : g' ≠ g) : Blk w' g' t cs := (ho.block g' hne).trans h
theorem run_copyN {P : Program} (w : World) (dT sT ty elem : TypeId) (k : Nat) (hu : P.underlying dT = some (.slice elem)) (hsz : (P.info? elem).map (·.size) = some k)
    (dp sp : Option Addr) (dLen dCap sLen sCap : Nat) (g off : Nat) (cur : List Value) (t : TypeId) (hg : Blk w g t cur.toArray) (cs : List Value) (m : Nat) (hm : m = Nat.min sLen dLen) (hn : cs.length = m * k)
    (hpos : 0 < cs.length → dp = some ⟨g, off, none⟩ ∧ SrcOk w sp cs.length cs) (hfit : off + cs.length ≤ cur.length) (h1 : ∀ v ∈ cs, v.oneCell' = true) :
    ∃ w', (Builtin.copy_ #[dT, sT] ty #[.slice dp dLen dCap, .slice sp sLen sCap]).run P w = .ok (goInt m) w' ∧ Blk w' g t (splice cur off cs).toArray ∧ Only g w w' := by
  cases hq : P.info? elem with
  | none => simp [hq] at hsz
  | some i =>
    have hi : i.size = k := by simpa [hq] using hsz
    by_cases h0 : cs.length = 0
    · obtain rfl : cs = [] := List.eq_nil_of_length_eq_zero h0
      have hl : ∀ (x : Addr), (loadCells x 0).run P w = .ok #[] w := fun x => by simpa using run_loadCells_list (P := P) w x [] (by simp)
      have hmk : m * k = 0 := by simpa using hn.symm
      refine ⟨w, ?_, by simpa [splice] using hg, ⟨rfl, rfl, rfl, rfl, fun _ _ => rfl⟩⟩
      cases dp <;> cases sp <;> simp [Builtin.copy_, run_underlying hu, Builtin.lenOf, Builtin.firstCells, sizeOf, typeInfo, hq, hi, ← hm, hmk, storeCells, hl]
    · obtain ⟨rfl, hs⟩ := hpos (by omega)
      obtain ⟨ad, rfl, hsrc⟩ := hs (by omega)
      have hl := run_loadCells_list (P := P) w ad cs hsrc
      have hst := run_storeCells_at P g off t cs 0 cur.toArray w hg (by simpa using hfit) h1
      refine ⟨w.setRow g (cur.take off ++ cs ++ cur.drop (off + cs.length)).toArray, ?_, ?_, ?_⟩
      · simp [Builtin.copy_, run_underlying hu, Builtin.lenOf, Builtin.firstCells, sizeOf, typeInfo, hq, hi, ← hm, ← hn, hl, hst]
      · have := setRow_heap w g _ (splice cur off cs).toArray t _ hg
        simpa [Blk, splice] using this
      · exact ⟨rfl, rfl, rfl, by simp [World.setRow], fun j hj => setRow_other w g j _ hj⟩
theorem step_copyN {P : Program} {ops : Array Oper} {o : Oper} {a : Act} {w : World} {K : Act → World → Prop} {Q : Exit → Act → World → Prop} {E : Prop} (hgd : o.guard = none) (d s : Operand) (dT sT : TypeId)
    (ho : o.op = .call { callee := .builtin .copy, args := #[d, s], argTypes := #[dT, sT] }) (elem : TypeId) (k : Nat) (hu : P.underlying dT = some (.slice elem)) (hsz : (P.info? elem).map (·.size) = some k)
    (dp sp : Option Addr) (dLen dCap sLen sCap : Nat) (hd : a.eval d = .slice dp dLen dCap) (hs : a.eval s = .slice sp sLen sCap)
    (g off : Nat) (cur : List Value) (t : TypeId) (hg : Blk w g t cur.toArray) (cs : List Value) (m : Nat) (hm : m = Nat.min sLen dLen) (hn : cs.length = m * k)
    (hpos : 0 < cs.length → dp = some ⟨g, off, none⟩ ∧ SrcOk w sp cs.length cs) (hfit : off + cs.length ≤ cur.length) (h1 : ∀ v ∈ cs, v.oneCell' = true)
    (h : ∀ w', Hid (Blk w' g t (splice cur off cs).toArray) → Only g w w' → K (a.put o.dst (goInt m)) w') :
    if Region.wanted o (yielded ops a.tmps) = true then Oper.wp P o a w K Q else E := by
  have hw : Region.wanted o (yielded ops a.tmps) = true := by simp [Region.wanted, hgd]
  rw [if_pos hw]
  obtain ⟨w', hrun, hb, ho'⟩ := run_copyN (P := P) w dT sT o.type elem k hu hsz dp sp dLen dCap sLen sCap g off cur t hg cs m hm hn hpos hfit h1
  unfold Oper.wp
  simp [execOp, ho, resolve, invoke, builtin, hd, hs, hrun, Result.andThen]
  exact h _ hb ho'
theorem wpList_copyN {P : Program} {ops : Array Oper} {rest : List Oper} {o : Oper} {a : Act} {w : World} {Q : Exit → Act → World → Prop} (hgd : o.guard = none) (d s : Operand) (dT sT : TypeId)
    (ho : o.op = .call { callee := .builtin .copy, args := #[d, s], argTypes := #[dT, sT] }) (elem : TypeId) (k : Nat) (hu : P.underlying dT = some (.slice elem)) (hsz : (P.info? elem).map (·.size) = some k)
    (dp sp : Option Addr) (dLen dCap sLen sCap : Nat) (hd : a.eval d = .slice dp dLen dCap) (hs : a.eval s = .slice sp sLen sCap)
    (g off : Nat) (cur : List Value) (t : TypeId) (hg : Blk w g t cur.toArray) (cs : List Value) (m : Nat) (hm : m = Nat.min sLen dLen) (hn : cs.length = m * k)
    (hpos : 0 < cs.length → dp = some ⟨g, off, none⟩ ∧ SrcOk w sp cs.length cs) (hfit : off + cs.length ≤ cur.length) (h1 : ∀ v ∈ cs, v.oneCell' = true)
    (h : ∀ w', Hid (Blk w' g t (splice cur off cs).toArray) → Only g w w' → wpList P ops Q rest (a.put o.dst (goInt m)) w') : wpList P ops Q (o :: rest) a w := by
  refine wpList_plain hgd fun K hK => ?_
  have h2 := step_copyN (P := P) (ops := ops) (o := o) (a := a) (w := w) (K := K) (Q := Q) (E := False) hgd d s dT sT ho elem k hu hsz dp sp dLen dCap sLen sCap hd hs g off cur t hg cs m hm hn hpos hfit h1 (fun w' a1 a2 => hK _ _ (h w' a1 a2))
  have hw : Region.wanted o (yielded ops a.tmps) = true := by simp [Region.wanted, hgd]
  rw [if_pos hw] at h2
  exact h2
theorem SrcOk.blk {w : World} {g off m : Nat} {t : TypeId} {cur : List Value} {cs : List Value} (hg : Blk w g t cur.toArray) (h : ∀ j u, cs[j]? = some u → cur[off + j]? = some u) : SrcOk w (some ⟨g, off, none⟩) m cs := fun _ => by
  refine ⟨_, rfl, fun j u hu => ?_⟩
  have := h j u hu
  have hc := (hg.cell (off + j)).trans (by simpa using this)
  unfold Addr.add
  split
  · rename_i h0; subst h0; simpa using hc
  · exact hc
theorem ret_ii {v v' : Value} {k : IntKind} {a b a' b' : Int} (h : v = .int k a) (h' : v' = .int .i64 b) (e : a = a') (e' : b = b') : Ending.returned (.tuple #[v, v']) = .returned (.tuple #[.int k a', .int .i64 b']) := by rw [h, h', e, e']
def badE (b : Bool) : Int := if b then 0 else 1
theorem badE_t : badE true = 0 := rfl
set_option maxHeartbeats 400000 in
theorem isC_any (p : Int) (w : World) : Calls Tryz.prog 140 #[.int .i64 p] w fun e w' => e = .returned (.bool (isC p)) ∧ w = w' := by
  go_enter Tryz.func140, Tryz.ntmps140
  go_wp2
  all_goals go_ret
  all_goals exact ⟨ret_b rfl (by rw [Bool.eq_iff_iff]; simp only [isC_iff, decide_eq_true_eq, Bool.false_eq_true, false_iff] at *; omega), rfl⟩
set_option maxHeartbeats 400000 in
theorem is_any (p : Int) (w : World) : Calls Tryz.prog 126 #[.int .i64 p] w fun e w' => e = .returned (.bool (isC p)) ∧ w = w' := by
  go_enter Tryz.func126, Tryz.ntmps126
  go_wp2
  all_goals go_ret
  all_goals exact ⟨ret_b rfl (by rw [Bool.eq_iff_iff]; simp only [isC_iff, decide_eq_true_eq, Bool.false_eq_true, false_iff] at *; omega), rfl⟩
set_option maxHeartbeats 400000 in
theorem behind_any (p : Int) (b : Bool) (w : World) (h : isC p = true) : Calls Tryz.prog 141 #[.int .i64 p, .bool b] w fun e w' => e = .returned (.int .i64 (lrn p b)) ∧ w = w' := by
  rw [isC_iff] at h
  obtain ⟨h1, h2⟩ := h
  have i1 : IntKind.i64.wrap (2048 - p) = 2048 - p := IntWalk.i64_in _ (by omega)
  have i2 : IntKind.i64.wrap (p - p / 32) = p - p / 32 := IntWalk.i64_in _ (by omega)
  have i3 : IntKind.i64.wrap (p + (2048 - p) / 32) = p + (2048 - p) / 32 := IntWalk.i64_in _ (by omega)
  cases b
  · go_enter Tryz.func141, Tryz.ntmps141
    go_wp2
    all_goals go_ret
    all_goals exact ⟨ret_i rfl (by simp [lrn]), rfl⟩
  · go_enter Tryz.func141, Tryz.ntmps141
    go_wp2
    all_goals go_ret
    all_goals exact ⟨ret_i rfl (by simp [lrn]), rfl⟩
def lrnR (p : Int) (b : Bool) : Int := if isC p then lrn p b else 0
set_option maxHeartbeats 400000 in
theorem Learn_any (p : Int) (b : Bool) (w : World) : Calls Tryz.prog 135 #[.int .i64 p, .bool b] w fun e w' => e = .returned (.tuple #[.int .i64 (lrnR p b), .int .i64 (badE (isC p))]) ∧ w = w' := by
  have hi := fun W => isC_any p W
  have hl := fun W (h : isC p = true) => behind_any p b W h
  replace hi := hide hi; replace hl := hide hl
  cases hc : isC p
  · go_enter Tryz.func135, Tryz.ntmps135
    go_wp2_with (go_at_call 140; refine (unhide hi _).mono ?_; rintro e w1 ⟨rfl, rfl⟩; rw [hc])
    all_goals go_ret2
    all_goals exact ⟨ret_ii rfl rfl (by simp [lrnR, hc]) (by simp [badE]), rfl⟩
  · go_enter Tryz.func135, Tryz.ntmps135
    go_wp2_with (first
      | (go_at_call 140; refine (unhide hi _).mono ?_; rintro e w1 ⟨rfl, rfl⟩; rw [hc])
      | (go_at_call 141; refine (unhide hl _ hc).mono ?_; rintro e w1 ⟨rfl, rfl⟩))
    all_goals go_ret2
    all_goals exact ⟨ret_ii rfl rfl (by simp [lrnR, hc]) (by simp [badE]), rfl⟩
set_option maxHeartbeats 400000 in
theorem refLearn_any (p : Int) (b : Bool) (w : World) : Calls Tryz.prog 103 #[.int .i64 p, .bool b] w fun e w' => e = .returned (.tuple #[.int .i64 (lrnR p b), .int .i64 (badE (isC p))]) ∧ w = w' := by
  have hi := fun W => is_any p W
  replace hi := hide hi
  cases hc : isC p
  · go_enter Tryz.func103, Tryz.ntmps103
    go_wp2_with (go_at_call 126; refine (unhide hi _).mono ?_; rintro e w1 ⟨rfl, rfl⟩; rw [hc])
    all_goals go_ret2
    all_goals exact ⟨ret_ii rfl rfl (by simp [lrnR, hc]) (by simp [badE]), rfl⟩
  · have h := isC_iff.1 hc
    obtain ⟨h1, h2⟩ := h
    have i1 : IntKind.i64.wrap (2048 - p) = 2048 - p := IntWalk.i64_in _ (by omega)
    have i2 : IntKind.i64.wrap (p - p.tdiv 32) = p - p / 32 := by rw [Int.tdiv_eq_ediv_of_nonneg (by omega)]; exact IntWalk.i64_in _ (by omega)
    have i3 : IntKind.i64.wrap (p + (2048 - p).tdiv 32) = p + (2048 - p) / 32 := by rw [Int.tdiv_eq_ediv_of_nonneg (by omega)]; exact IntWalk.i64_in _ (by omega)
    cases b
    · go_enter Tryz.func103, Tryz.ntmps103
      go_wp2_with (go_at_call 126; refine (unhide hi _).mono ?_; rintro e w1 ⟨rfl, rfl⟩; rw [hc])
      all_goals go_ret2
      all_goals exact ⟨ret_ii rfl rfl (by simp [lrnR, hc, lrn]) (by simp [badE]), rfl⟩
    · go_enter Tryz.func103, Tryz.ntmps103
      go_wp2_with (go_at_call 126; refine (unhide hi _).mono ?_; rintro e w1 ⟨rfl, rfl⟩; rw [hc])
      all_goals go_ret2
      all_goals exact ⟨ret_ii rfl rfl (by simp [lrnR, hc, lrn]) (by simp [badE]), rfl⟩
def splR (s p : Int) : Int := if 16777216 ≤ s ∧ isC p = true then s / 2048 * p else 0
def splE (s p : Int) : Int := if 16777216 ≤ s ∧ isC p = true then 0 else 1
set_option maxHeartbeats 1000000 in
theorem Split_any (s p : Int) (w : World) (hs : 0 ≤ s ∧ s < 4294967296) : Calls Tryz.prog 134 #[.int .u32 s, .int .i64 p] w fun e w' => e = .returned (.tuple #[.int .u32 (splR s p), .int .i64 (splE s p)]) ∧ w = w' := by
  have hi := fun W => isC_any p W
  replace hi := hide hi
  obtain ⟨s0, s1⟩ := hs
  by_cases hsp : 16777216 ≤ s
  · cases hp : isC p
    · have e1 : splR s p = 0 := by simp [splR, hp]
      have e2 : splE s p = 1 := by simp [splE, hp]
      rw [e1, e2]
      clear e1 e2
      go_enter Tryz.func134, Tryz.ntmps134
      go_wp2_with (go_at_call 140; refine (unhide hi _).mono ?_; rintro e w1 ⟨rfl, rfl⟩; rw [hp])
      all_goals go_ret2
      all_goals exact ⟨rfl, rfl⟩
    · have e1 : splR s p = s / 2048 * p := by simp [splR, hp, hsp]
      have e2 : splE s p = 0 := by simp [splE, hp, hsp]
      rw [e1, e2]
      clear e1 e2
      obtain ⟨p0, p1⟩ := isC_iff.1 hp
      have m1 : 0 ≤ s / 2048 * p := Int.mul_nonneg (by omega) (by omega)
      have m2 : s / 2048 * p ≤ 2097151 * 2017 := Int.mul_le_mul (by omega) p1 (by omega) (by omega)
      have i1 : IntKind.u32.wrap p = p := IntWalk.u32_in _ (by omega)
      have i2 : IntKind.u32.wrap (s / 2048 * p) = s / 2048 * p := IntWalk.u32_in _ (by omega)
      have i3 : s.tdiv 2048 = s / 2048 := Int.tdiv_eq_ediv_of_nonneg (by omega)
      go_enter Tryz.func134, Tryz.ntmps134
      go_wp2_with (go_at_call 140; refine (unhide hi _).mono ?_; rintro e w1 ⟨rfl, rfl⟩; rw [hp])
      all_goals go_ret2
      all_goals exact ⟨rfl, rfl⟩
  · have e1 : splR s p = 0 := by simp [splR, hsp]
    have e2 : splE s p = 1 := by simp [splE, hsp]
    rw [e1, e2]
    clear e1 e2
    go_enter Tryz.func134, Tryz.ntmps134
    go_wp2
    all_goals go_ret2
    all_goals exact ⟨rfl, rfl⟩
set_option maxHeartbeats 1000000 in
theorem refSplit_any (s p : Int) (w : World) (hs : 0 ≤ s ∧ s < 4294967296) : Calls Tryz.prog 101 #[.int .u32 s, .int .i64 p] w fun e w' => e = .returned (.tuple #[.int .u32 (splR s p), .int .i64 (splE s p)]) ∧ w = w' := by
  have hi := fun W => is_any p W
  replace hi := hide hi
  obtain ⟨s0, s1⟩ := hs
  by_cases hsp : 16777216 ≤ s
  · cases hp : isC p
    · have e1 : splR s p = 0 := by simp [splR, hp]
      have e2 : splE s p = 1 := by simp [splE, hp]
      rw [e1, e2]
      clear e1 e2
      go_enter Tryz.func101, Tryz.ntmps101
      go_wp2_with (go_at_call 126; refine (unhide hi _).mono ?_; rintro e w1 ⟨rfl, rfl⟩; rw [hp])
      all_goals go_ret2
      all_goals exact ⟨rfl, rfl⟩
    · have e1 : splR s p = s / 2048 * p := by simp [splR, hp, hsp]
      have e2 : splE s p = 0 := by simp [splE, hp, hsp]
      rw [e1, e2]
      clear e1 e2
      obtain ⟨p0, p1⟩ := isC_iff.1 hp
      have m1 : 0 ≤ s / 2048 * p := Int.mul_nonneg (by omega) (by omega)
      have m2 : s / 2048 * p ≤ 2097151 * 2017 := Int.mul_le_mul (by omega) p1 (by omega) (by omega)
      have i1 : IntKind.u32.wrap p = p := IntWalk.u32_in _ (by omega)
      have i2 : IntKind.u32.wrap (s / 2048 * p) = s / 2048 * p := IntWalk.u32_in _ (by omega)
      have i3 : s.tdiv 2048 = s / 2048 := Int.tdiv_eq_ediv_of_nonneg (by omega)
      go_enter Tryz.func101, Tryz.ntmps101
      go_wp2_with (go_at_call 126; refine (unhide hi _).mono ?_; rintro e w1 ⟨rfl, rfl⟩; rw [hp])
      all_goals go_ret2
      all_goals exact ⟨rfl, rfl⟩
  · have e1 : splR s p = 0 := by simp [splR, hsp]
    have e2 : splE s p = 1 := by simp [splE, hsp]
    rw [e1, e2]
    clear e1 e2
    cases hp : isC p
    · go_enter Tryz.func101, Tryz.ntmps101
      go_wp2_with (go_at_call 126; refine (unhide hi _).mono ?_; rintro e w1 ⟨rfl, rfl⟩; rw [hp])
      all_goals go_ret2
      all_goals exact ⟨rfl, rfl⟩
    · go_enter Tryz.func101, Tryz.ntmps101
      go_wp2_with (go_at_call 126; refine (unhide hi _).mono ?_; rintro e w1 ⟨rfl, rfl⟩; rw [hp])
      all_goals go_ret2
      all_goals exact ⟨rfl, rfl⟩
set_option maxHeartbeats 1000000 in
theorem Mul64_one (n : Nat) (hn : n ≤ 1024) (w : World) : Calls Tryz.prog 144 #[.int .u64 1, .int .u64 n] w fun e w' => e = .returned (.tuple #[.int .u64 0, .int .u64 n]) ∧ w = w' := by
  have e0 : bits .and .u64 1 4294967295 = 1 := and_low32 1 (by omega) (by omega)
  have e1 : bits .and .u64 (n : Int) 4294967295 = n := (and_low32 n (by omega) (by omega)).trans (by omega)
  have e2 : (n : Int) / 4294967296 = 0 := by omega
  have e3 : IntKind.u64.wrap (n : Int) = n := by rw [IntKind.wrap_u64]; omega
  have e5 : bits .and .u64 0 4294967295 = 0 := and_low32 0 (by omega) (by omega)
  go_enter Tryz.func144, Tryz.ntmps144
  go_wp2
  go_ret2
  exact ⟨rfl, rfl⟩
set_option maxHeartbeats 1000000 in
theorem Mul_one (n : Nat) (hn : n ≤ 1024) (w : World) : Calls Tryz.prog 139 #[.int .u64 1, .int .u64 n] w fun e w' => e = .returned (.tuple #[.int .u64 0, .int .u64 n]) ∧ w = w' := by
  have h := fun W => Mul64_one n hn W
  replace h := hide h
  go_enter Tryz.func139, Tryz.ntmps139
  go_wp2_with (go_at_call 144; refine (unhide h _).mono ?_; rintro e w1 ⟨rfl, rfl⟩)
  go_ret2
  exact ⟨rfl, rfl⟩
theorem elem22 : Tryz.prog.underlying 72 = some (.slice (Tryz.prog.elem 72)) := by kernel_rfl
theorem size3 : ∀ W, (sizeOf (Tryz.prog.elem 72)).run Tryz.prog W = .ok 1 W := fun W => by kernel_rfl
theorem slice_h22 (A : Option Addr) (n c j : Nat) (hj : j ≤ c) (W : World) :
    (Instr.slice 72 (.slice A n c) none (some (.int .i64 (j : Int))) none).run Tryz.prog W = .ok (sliced A 0 j c 1) W := by
  rw [run_slice_h (P := Tryz.prog) W 72 A n c elem22 .i64 j (by omega) (by omega), size3]
  simp [Result.andThen]
theorem slice_l22 (A : Option Addr) (n c i : Nat) (hi : i ≤ n) (W : World) :
    (Instr.slice 72 (.slice A n c) (some (.int .i64 (i : Int))) none none).run Tryz.prog W = .ok (sliced A i n c 1) W := by
  rw [run_slice_l (P := Tryz.prog) W 72 A n c elem22 .i64 i (by omega) (by omega), size3]
  simp [Result.andThen]
def rep (n k : Nat) : List Value := List.replicate k (.int .i64 1024) ++ List.replicate (n - k) (.int .i64 0)
theorem rep_len {n k : Nat} (h : k ≤ n) : (rep n k).length = n := by simp [rep]; omega
theorem rep_splice {n k m : Nat} (h : k + m ≤ n) : splice (rep n k) k (List.replicate m (.int .i64 1024)) = rep n (k + m) := by
  unfold splice rep
  rw [List.take_left' (by simp), List.length_replicate, List.drop_append, List.drop_eq_nil_of_le (by simp), List.drop_replicate, List.length_replicate, List.nil_append, ← List.append_assoc, List.replicate_append_replicate, show n - k - (k + m - k) = n - (k + m) by omega]
theorem rep_get {n k i : Nat} (h : i < k) : (rep n k)[i]? = some (.int .i64 1024) := by
  unfold rep
  rw [List.getElem?_append_left (by simpa using h)]
  simp [h]
theorem info3' : ∃ i, Tryz.prog.info? 3 = some i ∧ i.zero = some (.int .i64 0) ∧ i.size = 1 ∧ i.bytes = 8 := info_parts info3
theorem made_rep (n : Nat) : madeCells (Value.int .i64 0).cells (n * 1) = (rep n 0).toArray := by
  have hz : (madeCells (Value.int .i64 0).cells (n * 1)).toList = List.replicate (n * 1) (.int .i64 0) := toList_madeCells_one _ _
  rw [← Array.toArray_toList (xs := madeCells (Value.int .i64 0).cells (n * 1)), hz]
  simp [rep]
theorem addk (g k : Nat) : (⟨g, 0, none⟩ : Addr).add k = ⟨g, k, none⟩ := by
  unfold Addr.add
  split
  · rename_i h; subst h; rfl
  · simp
set_option maxHeartbeats 1000000 in
theorem repeat_any (n : Nat) (hn : n ≤ 1024) (g0 : Nat) (w : World) (hg : Blk w g0 3 #[.int .i64 1024]) :
    Calls Tryz.prog 133 #[.slice (some ⟨g0, 0, none⟩) 1 1, .int .i64 n] w fun e w' => ∃ g, e = .returned (.slice (some ⟨g, 0, none⟩) n n) ∧ Blk w' g 3 (rep n n).toArray ∧ w.heap.size ≤ g ∧ Below w.heap.size w w' := by
  obtain ⟨i0, hi0, hz0, hz1, hz2⟩ := info3'
  have hmk := run_mk (P := Tryz.prog) 72 3 i0 _ 1 Tryz.underlying72 hi0 hz0 hz1 n (by rw [hz2]; omega) (by omega)
  rw [made_rep] at hmk
  have hM := fun W => Mul_one n hn W
  have e1 : IntKind.u64.wrap (n : Int) = n := by rw [IntKind.wrap_u64]; omega
  have e2 : IntKind.i64.wrap (n : Int) = n := IntWalk.i64_in _ (by omega)
  have k0 : ¬ (n : Int) < 0 := by omega
  replace hmk := hide hmk; replace hM := hide hM
  obtain ⟨m0, hm0⟩ : ∃ m0, m0 = Nat.min 1 n := ⟨_, rfl⟩
  have f0 : (rep n 0).length = n := rep_len (by omega)
  have f1 : (List.replicate m0 (Value.int .i64 1024)).length = m0 * 1 := by simp
  have f2 : SrcOk w (some ⟨g0, 0, none⟩) m0 (List.replicate m0 (.int .i64 1024)) := SrcOk.blk (cur := [.int .i64 1024]) hg fun j u hu => by
    have hj : j < m0 := by simpa using (List.getElem?_eq_some_iff.1 hu).1
    have hm1 : m0 ≤ 1 := by rw [hm0]; exact Nat.min_le_left _ _
    obtain rfl : j = 0 := by omega
    simp [List.getElem?_replicate] at hu
    simpa using hu.2
  have f3 : 0 + (List.replicate m0 (Value.int .i64 1024)).length ≤ (rep n 0).length := by
    have : m0 ≤ n := by rw [hm0]; exact Nat.min_le_right _ _
    simp [f0]; omega
  have f4 : ∀ k, ∀ v ∈ List.replicate k (Value.int .i64 1024), v.oneCell' = true := fun k v hv => by rw [(List.mem_replicate.1 hv).2]; rfl
  have f5 := rep_splice (n := n) (k := 0) (m := m0) (by have : m0 ≤ n := (by rw [hm0]; exact Nat.min_le_right _ _); omega)
  have m01 : m0 ≤ n := by rw [hm0]; exact Nat.min_le_right _ _
  have m02 : n ≠ 0 → m0 = 1 := fun h => by rw [hm0]; exact Nat.min_eq_left (by omega)
  rw [Nat.zero_add] at f5
  have hl := hg.lt
  have f6 : SrcOk (w.alloc (.cells (rep n 0).toArray 3)) (some ⟨g0, 0, none⟩) (List.replicate m0 (Value.int .i64 1024)).length (List.replicate m0 (.int .i64 1024)) := by
    rw [List.length_replicate]; exact f2.below ((Below.refl _ _).alloc (Nat.le_refl _) _)
  replace f6 := hide f6; replace f0 := hide f0; replace f1 := hide f1; replace f2 := hide f2; replace f3 := hide f3; replace f4 := hide f4; replace f5 := hide f5; replace hm0 := hide hm0; replace m02 := hide m02
  go_enter Tryz.func133, Tryz.ntmps133
  go_wp2_with (first
    | (go_at_call 139; refine (unhide hM _).mono ?_; rintro e w1 ⟨rfl, rfl⟩; have hmk' := unhide hmk)
    | (refine wpList_copyN rfl (.tmp 31) (.tmp 32) 72 72 rfl 3 1 Tryz.underlying72 (by kernel_rfl) _ _ _ _ _ _ rfl rfl w.heap.size 0 (rep n 0) 3 (Blk.new rfl) (List.replicate m0 (.int .i64 1024)) m0 (unhide hm0) (unhide f1) (fun _ => ⟨rfl, unhide f6⟩) (unhide f3) (unhide f4 _) ?_
       clear hmk'
       intro w3 B3 O3
       rw [unhide f5] at B3)
    | fail)
  have hB3 : Below w.heap.size w w3 := ((Below.refl w.heap.size w).alloc (Nat.le_refl _) _).trans (O3.below (Nat.le_refl _))
  replace hB3 := hide hB3
  clear O3
  obtain ⟨g, hgg⟩ : ∃ g, g = w.heap.size := ⟨_, rfl⟩
  rw [← hgg] at B3
  have hge : w.heap.size ≤ g := by omega
  clear f2 hM hg
  rw [← hgg]
  replace hgg := hide hgg
  go_loopw [8] (fun i wr => ∃ (k : Nat), k ≤ n ∧ (n ≠ 0 → 0 < k) ∧ i = .int .i64 k ∧ Hid (Blk wr g 3 (rep n k).toArray) ∧ Hid (Below w.heap.size w wr)) (fun i _ => n - (intOf i).toNat)
  case atStart => exact ⟨m0, m01, fun h => by have := unhide m02 h; omega, rfl, B3, hB3⟩
  case round =>
    obtain ⟨k, hk, hk1, rfl, hB, hb⟩ := hrel
    by_cases hlt : k < n
    · have s1 := slice_l22 (some ⟨g, 0, none⟩) n n k (by omega)
      have s2 := slice_h22 (some ⟨g, 0, none⟩) n n k (by omega)
      unfold sliced at s1 s2
      rw [if_neg (by omega)] at s1 s2
      simp only [Option.map_some, Nat.mul_one, addk, Nat.sub_zero] at s1 s2
      obtain ⟨m, hm⟩ : ∃ m, m = Nat.min k (n - k) := ⟨_, rfl⟩
      have mk1 : m ≤ k := by rw [hm]; exact Nat.min_le_left _ _
      have mk2 : m ≤ n - k := by rw [hm]; exact Nat.min_le_right _ _
      have mk3 : 0 < m := by
        rw [hm]
        exact Nat.lt_min.2 ⟨hk1 (by omega), by omega⟩
      have x1 : (List.replicate m (Value.int .i64 1024)).length = m * 1 := by simp
      have x2 : SrcOk wr (some ⟨g, 0, none⟩) m (List.replicate m (.int .i64 1024)) := SrcOk.blk (cur := rep n k) (unhide hB) fun j u hu => by
        have hj : j < m := by simpa using (List.getElem?_eq_some_iff.1 hu).1
        rw [Nat.zero_add, rep_get (by omega), ← hu]
        simp [hj]
      have x3 : k + (List.replicate m (Value.int .i64 1024)).length ≤ (rep n k).length := by rw [rep_len hk]; simp; omega
      have x4 := rep_splice (n := n) (k := k) (m := m) (by omega)
      have i1 : IntKind.i64.wrap ((k : Int) + (m : Int)) = ((k + m : Nat) : Int) := by rw [← Int.natCast_add]; exact IntWalk.i64_in _ (by omega)
      replace x1 := hide x1; replace x2 := hide x2; replace x3 := hide x3; replace x4 := hide x4; replace hm := hide hm
      clear hk1 m01
      go_wp2_with fail
      go_region_held3 (fun _ => True) (trivial) (first | (refine step_copyN rfl (.tmp 41) (.tmp 44) 72 72 rfl 3 1 Tryz.underlying72 (by kernel_rfl) _ _ _ _ _ _ rfl rfl g k (rep n k) 3 (Blk.drew (unhide hB)) (List.replicate m (.int .i64 1024)) m (unhide hm) (unhide x1) (fun _ => ⟨rfl, by rw [List.length_replicate]; exact (show SrcOk wr.drew _ _ _ from unhide x2)⟩) (unhide x3) (unhide f4 _) ?_; intro w4 B4 O4))
      have hw4 : Below w.heap.size w w4 := ((unhide hb).drew).trans (O4.below hge)
      rw [unhide x4] at B4
      clear O4 i1
      replace hw4 := hide hw4
      go_wp2_with fail
      go_roundw
      case rel => exact ⟨k + m, by omega, fun _ => by omega, by simp, B4, hw4⟩
      case measure => simp [intOf]; omega
    · obtain rfl : k = n := by omega
      go_wp2_with fail
      go_ret
      exact ⟨g, rfl, unhide hB, hge, unhide hb⟩
theorem rep_flat (n : Nat) : rep n n = (List.replicate n (1024 : Int)).flatMap ivc := by
  unfold rep
  rw [Nat.sub_self, List.replicate_zero, List.append_nil]
  induction n with
  | zero => rfl
  | succ n ih => rw [List.replicate_succ, List.replicate_succ, List.flatMap_cons, ih]; rfl
set_option maxHeartbeats 1000000 in
theorem New_bad (n : Int) (hn : newN n = false) (w : World) :
    Calls Tryz.prog 117 #[.int .i64 n] w fun e w' => e = .returned (.tuple #[.slice none 0 0, .int .i64 1]) ∧ Below w.heap.size w w' := by
  by_cases k0 : n < 0
  · clear hn
    go_enter Tryz.func117, Tryz.ntmps117
    go_wp2
    go_ret2
    exact ⟨rfl, by (repeat (first | with_reducible exact Below.refl _ _ | with_reducible assumption | with_reducible refine Below.drew ?_ | with_reducible refine bl_alloc ?_ _ | with_reducible refine bl_call ?_ (by assumption) | (focus (with_reducible refine Below.setCell ?_ ?_ _; rotate_left; focus (first | omega | (simp <;> omega)))) | fail))⟩
  · have k1 : 1024 < n := by simp [newN] at hn; omega
    clear hn
    go_enter Tryz.func117, Tryz.ntmps117
    go_wp2
    go_ret2
    exact ⟨rfl, by (repeat (first | with_reducible exact Below.refl _ _ | with_reducible assumption | with_reducible refine Below.drew ?_ | with_reducible refine bl_alloc ?_ _ | with_reducible refine bl_call ?_ (by assumption) | (focus (with_reducible refine Below.setCell ?_ ?_ _; rotate_left; focus (first | omega | (simp <;> omega)))) | fail))⟩
set_option maxHeartbeats 1000000 in
theorem refNew_bad (n : Int) (hn : newN n = false) (w : World) :
    Calls Tryz.prog 79 #[.int .i64 n] w fun e w' => e = .returned (.tuple #[.slice none 0 0, .int .i64 1]) ∧ Below w.heap.size w w' := by
  by_cases k0 : n < 0
  · clear hn
    go_enter Tryz.func79, Tryz.ntmps79
    go_wp2
    go_ret2
    exact ⟨rfl, by (repeat (first | with_reducible exact Below.refl _ _ | with_reducible assumption | with_reducible refine Below.drew ?_ | with_reducible refine bl_alloc ?_ _ | with_reducible refine bl_call ?_ (by assumption) | (focus (with_reducible refine Below.setCell ?_ ?_ _; rotate_left; focus (first | omega | (simp <;> omega)))) | fail))⟩
  · have k1 : 1024 < n := by simp [newN] at hn; omega
    clear hn
    go_enter Tryz.func79, Tryz.ntmps79
    go_wp2
    go_ret2
    exact ⟨rfl, by (repeat (first | with_reducible exact Below.refl _ _ | with_reducible assumption | with_reducible refine Below.drew ?_ | with_reducible refine bl_alloc ?_ _ | with_reducible refine bl_call ?_ (by assumption) | (focus (with_reducible refine Below.setCell ?_ ?_ _; rotate_left; focus (first | omega | (simp <;> omega)))) | fail))⟩
set_option maxHeartbeats 400000 in
theorem has_any (g n : Nat) (A : Option Addr) (c : Nat) (i : Int) (w : World) (h1 : w.cell? ⟨g, 1, none⟩ = some (.slice A n c)) :
    Calls Tryz.prog 91 #[.pointer (some ⟨g, 0, none⟩), .int .i64 i] w fun e w' => e = .returned (.bool (decide (0 ≤ i) && decide (i < n))) ∧ w = w' := by
  by_cases h0 : 0 ≤ i
  · go_enter Tryz.func91, Tryz.ntmps91
    go_wp2
    go_ret
    exact ⟨ret_b rfl (by rw [Bool.eq_iff_iff]; simp <;> omega), rfl⟩
  · go_enter Tryz.func91, Tryz.ntmps91
    go_wp2
    go_ret
    exact ⟨ret_b rfl (by rw [Bool.eq_iff_iff]; simp; omega), rfl⟩
set_option maxHeartbeats 400000 in
theorem left_any (g : Nat) (s p : Int) (b : Bool) (w : World) (h0 : w.cell? ⟨g, 0, none⟩ = some (.int .u32 s)) (hp : 0 ≤ p) (hs : p ≤ s ∧ s < 4294967296) :
    Calls Tryz.prog 121 #[.pointer (some ⟨g, 0, none⟩), .int .u32 p, .bool b] w fun e w' => e = .returned (.int .u32 (if b then s - p else p)) ∧ w = w' := by
  have i1 : IntKind.u32.wrap (s - p) = s - p := IntWalk.u32_in _ (by omega)
  cases b
  · go_enter Tryz.func121, Tryz.ntmps121
    go_wp2
    go_ret
    exact ⟨rfl, rfl⟩
  · go_enter Tryz.func121, Tryz.ntmps121
    go_wp2
    go_ret
    exact ⟨rfl, rfl⟩
set_option maxHeartbeats 400000 in
theorem part_any (g gc n cap k : Nat) (s p : Int) (w : World) (h0 : w.cell? ⟨g, 0, none⟩ = some (.int .u32 s)) (h1 : w.cell? ⟨g, 1, none⟩ = some (.slice (some ⟨gc, 0, none⟩) n cap)) (hk : k < n) (hx : w.cell? ⟨gc, k, none⟩ = some (.int .i64 p))
    (hs : 16777216 ≤ s ∧ s < 4294967296) (hp : isC p = true) :
    Calls Tryz.prog 119 #[.pointer (some ⟨g, 0, none⟩), .int .i64 k] w fun e w' => e = .returned (.int .u32 (s / 2048 * p)) ∧ ∃ m, w' = w.drewN m := by
  have hS := fun W => Split_any s p W (by omega)
  have e1 : splR s p = s / 2048 * p := by simp [splR, hp, hs.1]
  have e2 : splE s p = 0 := by simp [splE, hp, hs.1]
  rw [e1, e2] at hS
  replace hS := hide hS
  have hk0 : (0 : Int) ≤ (k : Int) := by omega
  have hk1 : (k : Int) < (n : Int) := by omega
  go_enter Tryz.func119, Tryz.ntmps119
  go_wp2_with fail
  go_quiet ((go_at_call 134; refine Calls.quiet_of_same ((unhide hS _).mono fun e w' h => ⟨h.1, h.2.symm⟩)))
  go_wp2_with fail
  go_ret
  exact ⟨rfl, _, rfl⟩
theorem lrnR_ok {p : Int} (b : Bool) (h : isC p = true) : lrnR p b = lrn p b := by rw [lrnR, if_pos h]
end Go.Proofs.YthkccpemgmpadaaGreatDoor.P
