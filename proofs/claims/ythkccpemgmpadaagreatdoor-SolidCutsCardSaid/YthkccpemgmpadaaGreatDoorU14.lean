import Derived.Test.YthkccpemgmpadaaGreatDoorProg
import Derived.Test.YthkccpemgmpadaaGreatDoorU3
import Derived.WalkKit
import Derived.Handy
import Derived.Lib.SliceRun
import Derived.WalkSpells
import Derived.WalkLawsBesides
import Derived.Lib.Hide
import Derived.Deep.QuietTactic
import Derived.BigQuiet
import Derived.Deep.RegionHeld3
import Derived.Laws.CopyOwn
import Derived.Deep.AppendLies
import Derived.Deep.LoopGhost
import Derived.StillTailTactics
import Derived.Lib.AppendZerosOnto
import Derived.Lib.Bytes
import Derived.Lib.AppendZeros
import Derived.Deep.DeepCutAuto
namespace Go.Proofs.YthkccpemgmpadaaGreatDoor.P.M
set_option maxRecDepth 100000
open Go.RowKit
def n8 (x : UInt8) : Int := (x.toNat : Int)
theorem n8_inj {x y : UInt8} (h : n8 x = n8 y) : x = y := UInt8.toNat_inj.1 (by unfold n8 at h; omega)
theorem n8_eql (x y : UInt8) : (n8 x == n8 y) = decide (x = y) := by
  rw [Bool.eq_iff_iff]; simp; exact ⟨n8_inj, fun h => by rw [h]⟩
abbrev u8v (x : UInt8) : Value := .int .u8 (n8 x)
def Bs (lo hi : Nat) (w : World) (v : Value) (l : List UInt8) : Prop :=
  ∃ A c, v = .slice A l.length c ∧ l.length ≤ c ∧ c ≤ 9223372036854775807 ∧
    (0 < l.length → ∃ b off, A = some ⟨b, off, none⟩ ∧ lo ≤ b ∧ b < hi ∧ ∀ i (h : i < l.length), w.cell? ⟨b, off + i, none⟩ = some (u8v l[i]))
def Agree (lo hi : Nat) (w w' : World) : Prop := ∀ k, lo ≤ k → k < hi → w'.heap[k]? = w.heap[k]?
theorem Agree.of_below {lo hi B : Nat} {w w' : World} (h : Below B w w') (hb : hi ≤ B) : Agree lo hi w w' := fun k _ hk => h.block k (by omega)
theorem Agree.refl (lo hi : Nat) (w : World) : Agree lo hi w w := fun _ _ _ => rfl
def Sl {α : Type} (k : Nat) (R : World → List Value → α → Prop) (lo hi : Nat) (w : World) (v : Value) (l : List α) : Prop :=
  ∃ A c, v = .slice A l.length c ∧ l.length ≤ c ∧ c ≤ 9223372036854775807 ∧
    (0 < l.length → ∃ b off, A = some ⟨b, off, none⟩ ∧ lo ≤ b ∧ b < hi) ∧
    ∀ b off, A = some ⟨b, off, none⟩ → ∀ i (h : i < l.length), ∃ cs, cs.length = k ∧ (∀ j (hj : j < cs.length), w.cell? ⟨b, off + i * k + j, none⟩ = some cs[j]) ∧ R w cs l[i]
theorem Sl.keep {α : Type} {k : Nat} {R : World → List Value → α → Prop} {lo hi : Nat} {w w' : World} {v : Value} {l : List α} (h : Sl k R lo hi w v l)
    (ha : Agree lo hi w w') (hR : ∀ cs x, R w cs x → R w' cs x) : Sl k R lo hi w' v l := by
  obtain ⟨A, c, rfl, h1, h2, h3, h4⟩ := h
  refine ⟨A, c, rfl, h1, h2, h3, fun b off e i hi => ?_⟩
  obtain ⟨cs, hl, hc, hr⟩ := h4 b off e i hi
  obtain ⟨b', off', e', hb, hb'⟩ := h3 (by omega)
  rw [e] at e'
  injection e' with e'
  injection e' with e1 e2
  subst e1
  exact ⟨cs, hl, fun j hj => (World.cell?_of_block (ha b hb hb')).trans (hc j hj), hR _ _ hr⟩
theorem Sl.mono {α : Type} {k : Nat} {R R' : World → List Value → α → Prop} {lo hi lo' hi' : Nat} {w : World} {v : Value} {l : List α} (h : Sl k R lo hi w v l)
    (h1 : lo' ≤ lo) (h2 : hi ≤ hi') (hR : ∀ cs x, R w cs x → R' w cs x) : Sl k R' lo' hi' w v l := by
  obtain ⟨A, c, rfl, a1, a2, h3, h4⟩ := h
  refine ⟨A, c, rfl, a1, a2, fun h0 => ?_, fun b off e i hi => ?_⟩
  · obtain ⟨b, off, e, hb, hb'⟩ := h3 h0
    exact ⟨b, off, e, by omega, by omega⟩
  · obtain ⟨cs, hl, hc, hr⟩ := h4 b off e i hi
    exact ⟨cs, hl, hc, hR _ _ hr⟩
theorem Bs.keep {lo hi : Nat} {w w' : World} {v : Value} {l : List UInt8} (h : Bs lo hi w v l) (k : Agree lo hi w w') : Bs lo hi w' v l := by
  obtain ⟨A, c, rfl, h1, h2, h3⟩ := h
  refine ⟨A, c, rfl, h1, h2, fun h0 => ?_⟩
  obtain ⟨b, off, rfl, hb, hb', hc⟩ := h3 h0
  exact ⟨b, off, rfl, hb, hb', fun i hi => (World.cell?_of_block (k b hb hb')).trans (hc i hi)⟩
theorem Bs.mono {lo lo' hi hi' : Nat} {w : World} {v : Value} {l : List UInt8} (h : Bs lo hi w v l) (h1 : lo' ≤ lo) (h2 : hi ≤ hi') : Bs lo' hi' w v l := by
  obtain ⟨A, c, rfl, a1, a2, h3⟩ := h
  refine ⟨A, c, rfl, a1, a2, fun h0 => ?_⟩
  obtain ⟨b, off, rfl, hb, hb', hc⟩ := h3 h0
  exact ⟨b, off, rfl, by omega, by omega, hc⟩
theorem Bs.below {lo hi B : Nat} {w w' : World} {v : Value} {l : List UInt8} (h : Bs lo hi w v l) (hb : Below B w w') (hB : hi ≤ B) : Bs lo hi w' v l :=
  h.keep (Agree.of_below hb hB)
theorem bl_alloc {a w : World} (h : Below a.heap.size a w) (o : Obj) : Below a.heap.size a (w.alloc o) := h.alloc h.size o
theorem bl_call {a w w' : World} (h : Below a.heap.size a w) (h' : Below w.heap.size w w') : Below a.heap.size a w' := h.trans (h'.mono h.size)
theorem bl_grown {a w w' : World} {row : Option Nat} (h : Below a.heap.size a w) (hg : w.grownBy w' row) (hr : ∀ k, row = some k → a.heap.size ≤ k) : Below a.heap.size a w' := h.grown hg h.size hr
theorem bcell {W w1 : World} (hb : Below W.heap.size W w1) : (∀ b o, b < W.heap.size → w1.cell? ⟨b, o, none⟩ = W.cell? ⟨b, o, none⟩) ∧ (∀ b o, b < W.heap.size → w1.frozen? ⟨b, o, none⟩ = W.frozen? ⟨b, o, none⟩) :=
  ⟨fun b o h => hb.cell (p := ⟨b, o, none⟩) h, fun b o h => hb.frozen (p := ⟨b, o, none⟩) h⟩
theorem hide {p : Prop} (h : p) : Hid p := h
theorem unhide {p : Prop} (h : Hid p) : p := h
theorem ret_b {v : Value} {b b' : Bool} (h : v = .bool b) (e : b = b') : Ending.returned v = .returned (.bool b') := by rw [h, e]
theorem ret_i {v : Value} {k : IntKind} {b b' : Int} (h : v = .int k b) (e : b = b') : Ending.returned v = .returned (.int k b') := by rw [h, e]
def SrcOk (w : World) (A : Option Addr) (m : Nat) (news : List Value) : Prop := 0 < m → ∃ ad, A = some ad ∧ ∀ j u, news[j]? = some u → w.cell? (ad.add j) = some u
theorem SrcOk.below {w w' : World} {A : Option Addr} {m : Nat} {news : List Value} (h : SrcOk w A m news) (hb : Below w.heap.size w w') : SrcOk w' A m news := fun h0 => by
  obtain ⟨ad, e, hc⟩ := h h0
  exact ⟨ad, e, fun j u hu => (hb.cell (World.block_lt_of_cell? w _ (hc j u hu))).trans (hc j u hu)⟩
section
variable {P : Program} (w : World)
theorem run_app (base : Nat) (t ty e : TypeId) (i : TypeInfo) (z : Value) (size bytes : Nat) (ht : P.underlying t = some (.slice e)) (hi : P.info? e = some i) (hz : i.zero = some z)
    (hsize : i.size = size) (hby : i.bytes = bytes) (hzs : z.cells.size = size) (hsz : 0 < size)
    (v : Value) (n : Nat) (xs : List Value) (hown : w.ownsRow base e size v n xs)
    (A : Option Addr) (m c : Nat) (news : List Value) (hl : news.length = m * size) (hr : SrcOk w A m news) (h1 : ∀ u ∈ news, u.oneCell' = true)
    (h63 : n + m ≤ maxLen) (hbytes : (n + m) * bytes ≤ 140737488355328) (hbase : base ≤ w.heap.size) :
    ∃ v' w', (Builtin.append_ #[t, t] ty #[v, .slice A m c]).run P w = .ok v' w' ∧ w'.ownsRow base e size v' (n + m) (xs ++ news) ∧ w.grownBy w' v.ownBlock := by
  rcases Nat.eq_zero_or_pos m with rfl | hm
  · have hn : news = [] := List.eq_nil_of_length_eq_zero (by simpa using hl)
    subst hn
    rcases A with _ | ad
    · refine ⟨v, w, ?_, by simpa using hown, World.grownBy.refl w _⟩
      rcases hown.2 with ⟨rfl, rfl⟩ | ⟨g, cap, cur, rfl, _, _, hnc, _⟩
      · simp [Builtin.append_, run_underlying ht, sizeOf, typeInfo, hi, Builtin.lenOf, Builtin.firstCells]
      · simp [Builtin.append_, run_underlying ht, sizeOf, typeInfo, hi, Builtin.lenOf, Builtin.firstCells, hnc, storeCells]
    · obtain ⟨v', w', a, b, c', _⟩ := run_append_own (P := P) w base t ty e i z size bytes ht hi hz hsize hby hzs hsz v n xs hown ad 0 c [] hl (by simp) h1 h63 hbytes hbase
      exact ⟨v', w', a, b, c'⟩
  · obtain ⟨ad, rfl, hc⟩ := hr hm
    obtain ⟨v', w', a, b, c', _⟩ := run_append_own (P := P) w base t ty e i z size bytes ht hi hz hsize hby hzs hsz v n xs hown ad m c news hl hc h1 h63 hbytes hbase
    exact ⟨v', w', a, b, c'⟩
theorem wp_app {o : Oper} {a : Act} {K : Act → World → Prop} {Q : Exit → Act → World → Prop} (s x : Operand) (t : TypeId)
    (ho : o.op = .call { callee := .builtin .append, args := #[s, x], argTypes := #[t, t] })
    (base : Nat) (e : TypeId) (i : TypeInfo) (z : Value) (size bytes : Nat) (ht : P.underlying t = some (.slice e)) (hi : P.info? e = some i) (hz : i.zero = some z)
    (hsize : i.size = size) (hby : i.bytes = bytes) (hzs : z.cells.size = size) (hsz : 0 < size)
    (v : Value) (n : Nat) (xs : List Value) (hs : a.eval s = v) (hown : w.ownsRow base e size v n xs)
    (A : Option Addr) (m c : Nat) (news : List Value) (hx : a.eval x = .slice A m c) (hl : news.length = m * size) (hr : SrcOk w A m news) (h1 : ∀ u ∈ news, u.oneCell' = true)
    (h63 : n + m ≤ maxLen) (hbytes : (n + m) * bytes ≤ 140737488355328) (hbase : base ≤ w.heap.size)
    (h : ∀ v' w', w'.ownsRow base e size v' (n + m) (xs ++ news) → w.grownBy w' v.ownBlock → K (a.put o.dst v') w') : o.wp P a w K Q := by
  obtain ⟨v', w', hr, h2, h3⟩ := run_app (P := P) w base t o.type e i z size bytes ht hi hz hsize hby hzs hsz v n xs hown A m c news hl hr h1 h63 hbytes hbase
  unfold Oper.wp execOp
  simp only [ho, resolve, invoke, builtin, Sem.run_bind, Sem.run_pure, Result.andThen_ok, List.map_toArray, List.map_cons, List.map_nil, hs, hx, hr]
  exact h v' w' h2 h3
theorem wpList_app {ops : Array Oper} {rest : List Oper} {o : Oper} {a : Act} {Q : Exit → Act → World → Prop} (hgd : o.guard = none) (s x : Operand) (t : TypeId)
    (ho : o.op = .call { callee := .builtin .append, args := #[s, x], argTypes := #[t, t] })
    (base : Nat) (e : TypeId) (i : TypeInfo) (z : Value) (size bytes : Nat) (ht : P.underlying t = some (.slice e)) (hi : P.info? e = some i) (hz : i.zero = some z)
    (hsize : i.size = size) (hby : i.bytes = bytes) (hzs : z.cells.size = size) (hsz : 0 < size)
    (v : Value) (n : Nat) (xs : List Value) (hs : a.eval s = v) (hown : w.ownsRow base e size v n xs)
    (A : Option Addr) (m c : Nat) (news : List Value) (hx : a.eval x = .slice A m c) (hl : news.length = m * size) (hr : SrcOk w A m news) (h1 : ∀ u ∈ news, u.oneCell' = true)
    (h63 : n + m ≤ maxLen) (hbytes : (n + m) * bytes ≤ 140737488355328) (hbase : base ≤ w.heap.size)
    (h : ∀ v' w', w'.ownsRow base e size v' (n + m) (xs ++ news) → w.grownBy w' v.ownBlock → wpList P ops Q rest (a.put o.dst v') w') : wpList P ops Q (o :: rest) a w :=
  wpList_plain hgd fun _ hK => wp_app w s x t ho base e i z size bytes ht hi hz hsize hby hzs hsz v n xs hs hown A m c news hx hl hr h1 h63 hbytes hbase fun v' w' h2 h3 => hK _ _ (h v' w' h2 h3)
end
theorem run_mk {P : Program} (t e : TypeId) (i : TypeInfo) (z : Value) (size : Nat) (ht : P.underlying t = some (.slice e)) (hi : P.info? e = some i) (hz : i.zero = some z) (hsize : i.size = size)
    (n : Nat) (hbytes : i.bytes * n ≤ 281474976710656) (h63 : n ≤ 9223372036854775807) (W : World) :
    (Instr.makeSlice t (.int .i64 (n : Int)) (.int .i64 (n : Int))).run P W = .ok (.slice (some ⟨W.heap.size, 0, none⟩) n n) (W.alloc (.cells (madeCells z.cells (n * size)) e)) := by
  subst hsize
  have hb' : (i.bytes : Int) * (n : Int) ≤ 281474976710656 := by
    have h : ((i.bytes * n : Nat) : Int) ≤ 281474976710656 := by omega
    rwa [Int.natCast_mul] at h
  have hr := run_make (P := P) W t e i z ht hi hz .i64 .i64 n n (by omega) (Int.le_refl _) hb' (by omega)
  simp only [Int.toNat_natCast] at hr
  exact hr
theorem ownsRow_len {w : World} {base : Nat} {e : TypeId} {size : Nat} {v : Value} {n : Nat} {xs : List Value} (h : w.ownsRow base e size v n xs) : xs.length = n * size := h.1
theorem ownsRow_mono {w : World} {base base' : Nat} {e : TypeId} {size : Nat} {v : Value} {n : Nat} {xs : List Value} (h : w.ownsRow base e size v n xs) (hb : base' ≤ base) : w.ownsRow base' e size v n xs := by
  obtain ⟨h1, h2⟩ := h
  refine ⟨h1, ?_⟩
  rcases h2 with h2 | ⟨g, cap, cur, hv, hg, r⟩
  · exact .inl h2
  · exact .inr ⟨g, cap, cur, hv, by omega, r⟩
theorem ownsRow_form {w : World} {base : Nat} {e : TypeId} {size : Nat} {v : Value} {n : Nat} {xs : List Value} (h : w.ownsRow base e size v n xs) : ∃ A c, v = .slice A n c := by
  rcases h.2 with ⟨rfl, rfl⟩ | ⟨g, cap, cur, rfl, _⟩
  · exact ⟨_, _, rfl⟩
  · exact ⟨_, _, rfl⟩
theorem ownsRow_setCell' {w : World} {base : Nat} {e : TypeId} {size : Nat} {v : Value} {n : Nat} {xs : List Value} (h : w.ownsRow base e size v n xs) {a : Addr} (ha : a.block < base) (u : Value) : (w.setCell a u).ownsRow base e size v n xs :=
  ownsRow_setCell_below h ha u
theorem Bs.of_own {w : World} {base : Nat} {e : TypeId} {v : Value} {l : List UInt8} (h : w.ownsRow base e 1 v l.length (l.map u8v)) : Bs base w.heap.size w v l := by
  rcases h.2 with ⟨rfl, h0⟩ | ⟨g, cap, cur, rfl, hb, hg, hnc, hcm, hcs, htake⟩
  · refine ⟨none, 0, by rw [h0], by omega, by omega, fun hp => by omega⟩
  · refine ⟨_, cap, rfl, hnc, by simpa [maxLen] using hcm, fun hp => ⟨g, 0, rfl, hb, ?_, fun i hi => ?_⟩⟩
    · rcases Nat.lt_or_ge g w.heap.size with h1 | h1
      · exact h1
      · rw [Array.getElem?_eq_none h1] at hg; cases hg
    · have hc := World.ownsRow.cellAt (w := w) (base := base) (e := e) (size := 1) (g := g) (n := l.length) (cap := cap) (xs := l.map u8v) h i (by omega)
      rw [Nat.zero_add, hc]
      simp [hi]
theorem u8s_one (l : List UInt8) : ∀ u ∈ l.map u8v, u.oneCell' = true := by
  intro u hu
  obtain ⟨x, _, rfl⟩ := List.mem_map.1 hu
  rfl
theorem Bs.src {lo hi : Nat} {w : World} {A : Option Addr} {n c : Nat} {l : List UInt8} (h : Bs lo hi w (.slice A n c) l) :
    n = l.length ∧ SrcOk w A n (l.map u8v) := by
  obtain ⟨A', c', e, _, _, h3⟩ := h
  injection e with e1 e2 e3
  subst e1 e2 e3
  refine ⟨rfl, fun h0 => ?_⟩
  obtain ⟨b, off, rfl, _, _, hc⟩ := h3 h0
  refine ⟨_, rfl, fun j u hu => ?_⟩
  rw [List.getElem?_map, Option.map_eq_some_iff] at hu
  obtain ⟨x, hx, rfl⟩ := hu
  obtain ⟨hj, rfl⟩ := List.getElem?_eq_some_iff.1 hx
  have := hc j hj
  unfold Addr.add
  split
  · rename_i h0; subst h0; simpa using this
  · exact this
def Blk (w : World) (g : Nat) (t : TypeId) (cs : Array Value) : Prop := w.heap[g]? = some (.cells cs t (0, 0))
section
variable {w w' : World} {g : Nat} {t : TypeId} {cs : Array Value}
theorem Blk.lt (h : Blk w g t cs) : g < w.heap.size := by
  rcases Nat.lt_or_ge g w.heap.size with h1 | h1
  · exact h1
  · unfold Blk at h; rw [Array.getElem?_eq_none h1] at h; cases h
theorem Blk.cell (h : Blk w g t cs) (i : Nat) : w.cell? ⟨g, i, none⟩ = cs[i]? := cell_of_row w g i cs t (0, 0) h
theorem Blk.frozen (h : Blk w g t cs) (i : Nat) : w.frozen? ⟨g, i, none⟩ = false := frozen_of_row w g i cs t h
theorem Blk.new (hg : g = w.heap.size) : Blk (w.alloc (.cells cs t)) g t cs := by subst hg; exact heap_alloc_new w _
theorem Blk.drew (h : Blk w g t cs) : Blk w.drew g t cs := h
theorem Blk.drewN (h : Blk w g t cs) (n : Nat) : Blk (w.drewN n) g t cs := h
theorem Blk.alloc (h : Blk w g t cs) (o : Obj) : Blk (w.alloc o) g t cs := (Below.heap_alloc w o g h.lt).trans h
theorem Blk.set (h : Blk w g t cs) (i : Nat) (u : Value) : Blk (w.setCell ⟨g, i, none⟩ u) g t (cs.setIfInBounds i u) := heap_setCell_same w g i cs t u h
theorem Blk.far (h : Blk w g t cs) {p : Addr} (hp : g ≠ p.block) (u : Value) : Blk (w.setCell p u) g t cs := (Below.heap_setCell w p u g hp).trans h
theorem Blk.below {B : Nat} (h : Blk w g t cs) (hb : Below B w w') (hg : g < B) : Blk w' g t cs := (hb.block g hg).trans h
theorem Blk.ne_ {g' : Nat} {t' : TypeId} {cs' : Array Value} (h : Blk w g t cs) (h' : Blk w g' t' cs') (hne : t ≠ t') : g ≠ g' := by
  rintro rfl
  unfold Blk at h h'
  rw [h] at h'
  injection h' with h'
  injection h' with _ ht
  exact hne ht
theorem Blk.uniq {cs' : Array Value} (h : Blk w g t cs) (h' : Blk w g t cs') : cs = cs' := by
  unfold Blk at h h'
  rw [h] at h'
  injection h' with h'
  injection h'
end
theorem own_below {w w' : World} {base B : Nat} {e : TypeId} {size : Nat} {v : Value} {n : Nat} {xs : List Value} (h : w.ownsRow base e size v n xs) (hb : Below B w w') (hB : w.heap.size ≤ B) : w'.ownsRow base e size v n xs := by
  obtain ⟨h1, h2⟩ := h
  refine ⟨h1, ?_⟩
  rcases h2 with h2 | ⟨g, cap, cur, hv, hg, hh, r⟩
  · exact .inl h2
  · have hl : g < w.heap.size := Blk.lt (t := e) (cs := cur) hh
    exact .inr ⟨g, cap, cur, hv, hg, (hb.block g (by omega)).trans hh, r⟩
theorem own_far {w : World} {base : Nat} {e : TypeId} {size : Nat} {v : Value} {n : Nat} {xs : List Value} (h : w.ownsRow base e size v n xs) {g : Nat} {t : TypeId} {cs : Array Value} (hg : Blk w g t cs) (hne : e ≠ t) (i : Nat) (u : Value) : (w.setCell ⟨g, i, none⟩ u).ownsRow base e size v n xs := by
  obtain ⟨h1, h2⟩ := h
  refine ⟨h1, ?_⟩
  rcases h2 with h2 | ⟨g', cap, cur, hv, hb, hh, r⟩
  · exact .inl h2
  · have : g' ≠ g := Blk.ne_ (t := e) (cs := cur) hh hg hne
    exact .inr ⟨g', cap, cur, hv, hb, (Below.heap_setCell w ⟨g, i, none⟩ u g' this).trans hh, r⟩
theorem Blk.set3 {w : World} {g : Nat} {t : TypeId} {a b c x y z : Value} (h : Blk w g t #[a, b, c]) : Blk (((w.setCell ⟨g, 0, none⟩ x).setCell ⟨g, 1, none⟩ y).setCell ⟨g, 2, none⟩ z) g t #[x, y, z] := by
  simpa using ((h.set 0 x).set 1 y).set 2 z
theorem Blk.set2 {w : World} {g : Nat} {t : TypeId} {a b x y : Value} (h : Blk w g t #[a, b]) : Blk ((w.setCell ⟨g, 0, none⟩ x).setCell ⟨g, 1, none⟩ y) g t #[x, y] := by
  simpa using (h.set 0 x).set 1 y
def VBelow (B : Nat) (v : Value) : Prop := ∀ a n c, v = .slice (some a) n c → a.block < B
theorem own_vbelow {w : World} {base : Nat} {e : TypeId} {size : Nat} {v : Value} {n : Nat} {xs : List Value} (h : w.ownsRow base e size v n xs) : VBelow w.heap.size v := by
  intro a n' c hv
  rcases h.2 with ⟨h1, _⟩ | ⟨g, cap, cur, h1, _, hh, _⟩
  · rw [h1] at hv; injection hv with hv; cases hv
  · rw [h1] at hv
    injection hv with hv
    injection hv with hv
    subst hv
    exact Blk.lt (t := e) (cs := cur) hh
structure Only (g : Nat) (w w' : World) : Prop where
  os : w'.os = w.os
  tape : w'.tape = w.tape
  output : w'.output = w.output
  size : w'.heap.size = w.heap.size
  block : ∀ k, k ≠ g → w'.heap[k]? = w.heap[k]?
theorem Only.below {g B : Nat} {w w' : World} (h : Only g w w') (hB : B ≤ g) : Below B w w' := ⟨h.os, h.tape, h.output, Nat.le_of_eq h.size.symm, fun k hk => h.block k (by omega)⟩
def tkv (t : Tok) : List Value := [u8v t.lit, .int .i64 t.len, .int .i64 t.dist]
abbrev tkV (t : Tok) : Value := .agg #[.int .u8 (n8 t.lit), .int .i64 t.len, .int .i64 t.dist]
def Tks (lo hi : Nat) (w : World) (v : Value) (l : List Tok) : Prop := Sl 3 (fun _ cs f => cs = tkv f) lo hi w v l
theorem Tks.keep {lo hi : Nat} {w w' : World} {v : Value} {l : List Tok} (h : Tks lo hi w v l) (k : Agree lo hi w w') : Tks lo hi w' v l := Sl.keep h k fun _ _ hr => hr
theorem Tks.mono {lo lo' hi hi' : Nat} {w : World} {v : Value} {l : List Tok} (h : Tks lo hi w v l) (h1 : lo' ≤ lo) (h2 : hi ≤ hi') : Tks lo' hi' w v l := Sl.mono h h1 h2 fun _ _ hr => hr
theorem Tks.below {lo hi B : Nat} {w w' : World} {v : Value} {l : List Tok} (h : Tks lo hi w v l) (hb : Below B w w') (hB : hi ≤ B) : Tks lo hi w' v l := h.keep (Agree.of_below hb hB)
theorem Tks.grow {lo : Nat} {w w' : World} {v : Value} {l : List Tok} (h : Tks lo w.heap.size w v l) (hb : Below w.heap.size w w') : Tks lo w'.heap.size w' v l := (h.below hb (Nat.le_refl _)).mono (Nat.le_refl _) hb.size
theorem Bs.grow {lo : Nat} {w w' : World} {v : Value} {l : List UInt8} (h : Bs lo w.heap.size w v l) (hb : Below w.heap.size w w') : Bs lo w'.heap.size w' v l := (h.below hb (Nat.le_refl _)).mono (Nat.le_refl _) hb.size
theorem Tks.nil (lo hi : Nat) (w : World) : Tks lo hi w (.slice none 0 0) [] := ⟨none, 0, rfl, by simp, by omega, fun h => absurd h (by simp), fun _ _ e => by cases e⟩
theorem Bs.nil (lo hi : Nat) (w : World) : Bs lo hi w (.slice none 0 0) [] := ⟨none, 0, rfl, by simp, by omega, fun h => absurd h (by simp)⟩
theorem Bs.open {lo hi : Nat} {w : World} {v : Value} {l : List UInt8} (h : Bs lo hi w v l) : ∃ A c, v = .slice A l.length c ∧ l.length ≤ c ∧ c ≤ 9223372036854775807 ∧
    ∀ i, i < l.length → ∃ b off, A = some ⟨b, off, none⟩ ∧ lo ≤ b ∧ b < hi ∧ w.cell? ⟨b, off + i, none⟩ = some (.int .u8 (n8 (l.getD i 0))) := by
  obtain ⟨A, c, rfl, h1, h2, h3⟩ := h
  refine ⟨A, c, rfl, h1, h2, fun i hi => ?_⟩
  obtain ⟨b, off, rfl, g1, g2, g3⟩ := h3 (by omega)
  refine ⟨b, off, rfl, g1, g2, ?_⟩
  rw [g3 i hi, List.getD_eq_getElem?_getD, List.getElem?_eq_getElem hi]; rfl
theorem Tks.open {lo hi : Nat} {w : World} {v : Value} {l : List Tok} (h : Tks lo hi w v l) : ∃ A c, v = .slice A l.length c ∧ l.length ≤ c ∧ c ≤ 9223372036854775807 ∧
    ∀ k (hk : k < l.length), ∃ b off, A = some ⟨b, off, none⟩ ∧ lo ≤ b ∧ b < hi ∧ w.cell? ⟨b, off + k * 3, none⟩ = some (.int .u8 (n8 l[k].lit)) ∧ w.cell? ⟨b, off + k * 3 + 1, none⟩ = some (.int .i64 l[k].len) ∧ w.cell? ⟨b, off + k * 3 + 2, none⟩ = some (.int .i64 l[k].dist) := by
  obtain ⟨A, c, rfl, h1, h2, h3, h4⟩ := h
  refine ⟨A, c, rfl, h1, h2, fun k hk => ?_⟩
  obtain ⟨b, off, rfl, hb, hb'⟩ := h3 (by omega)
  obtain ⟨cs, hl, hc, hr⟩ := h4 b off rfl k hk
  refine ⟨b, off, rfl, hb, hb', ?_, ?_, ?_⟩
  · have := hc 0 (by omega); simpa [hr, tkv] using this
  · have := hc 1 (by omega); simpa [hr, tkv] using this
  · have := hc 2 (by omega); simpa [hr, tkv] using this
theorem Tks.make {lo hi : Nat} {w : World} {l : List Tok} {b off c : Nat} (h1 : l.length ≤ c) (h2 : c ≤ 9223372036854775807) (hlo : lo ≤ b) (hhi : b < hi)
    (h : ∀ k (hk : k < l.length), w.cell? ⟨b, off + k * 3, none⟩ = some (.int .u8 (n8 l[k].lit)) ∧ w.cell? ⟨b, off + k * 3 + 1, none⟩ = some (.int .i64 l[k].len) ∧ w.cell? ⟨b, off + k * 3 + 2, none⟩ = some (.int .i64 l[k].dist)) : Tks lo hi w (.slice (some ⟨b, off, none⟩) l.length c) l := by
  refine ⟨_, c, rfl, h1, h2, fun _ => ⟨b, off, rfl, hlo, hhi⟩, fun b' off' e k hk => ?_⟩
  injection e with e
  injection e with e1 e2
  subst e1 e2
  obtain ⟨c0, c1, c2⟩ := h k hk
  refine ⟨tkv l[k], rfl, fun j hj => ?_, rfl⟩
  match j, hj with
  | 0, _ => simpa [tkv] using c0
  | 1, _ => simpa [tkv] using c1
  | 2, _ => simpa [tkv] using c2
theorem flat_len (l : List Tok) : (l.flatMap tkv).length = l.length * 3 := by
  induction l with
  | nil => rfl
  | cons f r ih => simp [tkv] at ih ⊢; omega
theorem flat_get (l : List Tok) (k : Nat) (hk : k < l.length) : (l.flatMap tkv)[k * 3]? = some (u8v l[k].lit) ∧ (l.flatMap tkv)[k * 3 + 1]? = some (.int .i64 l[k].len) ∧ (l.flatMap tkv)[k * 3 + 2]? = some (.int .i64 l[k].dist) := by
  induction l generalizing k with
  | nil => simp at hk
  | cons f r ih =>
    cases k with
    | zero => simp [tkv]
    | succ k =>
      have := ih k (by simpa using hk)
      rw [List.flatMap_cons, show tkv f = [u8v f.lit, .int .i64 f.len, .int .i64 f.dist] from rfl, show (k + 1) * 3 = k * 3 + 3 by omega]
      simpa using this
theorem flat_one (l : List Tok) : ∀ u ∈ l.flatMap tkv, u.oneCell' = true := by
  intro u hu
  obtain ⟨f, _, h⟩ := List.mem_flatMap.1 hu
  simp [tkv] at h
  rcases h with rfl | rfl | rfl <;> rfl
theorem Tks.of_own {w : World} {base : Nat} {e : TypeId} {v : Value} {l : List Tok} (h : w.ownsRow base e 3 v l.length (l.flatMap tkv)) : Tks base w.heap.size w v l := by
  rcases h.2 with ⟨rfl, h0⟩ | ⟨g, cap, cur, rfl, hb, hg, hnc, hcm, hcs, htake⟩
  · obtain rfl : l = [] := List.eq_nil_of_length_eq_zero h0
    exact Tks.nil _ _ _
  · refine Tks.make hnc (by simpa [maxLen] using hcm) hb (Blk.lt (t := e) (cs := cur) hg) fun k hk => ?_
    have hcell := fun j (hj : j < l.length * 3) => World.ownsRow.cellAt (w := w) (base := base) (e := e) (size := 3) (g := g) (n := l.length) (cap := cap) (xs := l.flatMap tkv) h j hj
    obtain ⟨c0, c1, c2⟩ := flat_get l k hk
    exact ⟨by rw [Nat.zero_add, hcell _ (by omega)]; exact c0, by rw [Nat.zero_add, hcell _ (by omega)]; exact c1, by rw [Nat.zero_add, hcell _ (by omega)]; exact c2⟩
theorem Bs.own {w : World} {base n : Nat} {e : TypeId} {v : Value} {l : List UInt8} (h : w.ownsRow base e 1 v n (l.map u8v)) : Bs base w.heap.size w v l := by
  have hn : n = l.length := by have := ownsRow_len h; simpa using this.symm
  subst hn
  exact Bs.of_own h
theorem Tks.own {w : World} {base n : Nat} {e : TypeId} {v : Value} {l : List Tok} (h : w.ownsRow base e 3 v n (l.flatMap tkv)) : Tks base w.heap.size w v l := by
  have hn : n = l.length := by have := ownsRow_len h; rw [flat_len] at this; omega
  subst hn
  exact Tks.of_own h
theorem own_fresh (w : World) (base g : Nat) (e : TypeId) (size c : Nat) (cs : Array Value) (hg : g = w.heap.size) (hb : base ≤ w.heap.size) (hc : c ≤ maxLen) (hs : cs.size = c * size) :
    (w.alloc (.cells cs e)).ownsRow base e size (.slice (some ⟨g, 0, none⟩) 0 c) 0 [] := by
  subst hg
  exact ⟨by simp, .inr ⟨w.heap.size, c, cs, rfl, hb, heap_alloc_new w _, Nat.zero_le _, hc, hs, by simp⟩⟩
theorem own_drew {w : World} {base : Nat} {e : TypeId} {size : Nat} {v : Value} {n : Nat} {xs : List Value} (h : w.ownsRow base e size v n xs) : w.drew.ownsRow base e size v n xs := h
theorem own_base {w : World} {base : Nat} {e : TypeId} {size : Nat} {v : Value} {n : Nat} {xs : List Value} (h : w.ownsRow base e size v n xs) : ∀ k, v.ownBlock = some k → base ≤ k := by
  intro k hk
  rcases h.2 with ⟨rfl, _⟩ | ⟨g, cap, cur, rfl, hb, _⟩
  · simp [Value.ownBlock] at hk
  · simp [Value.ownBlock] at hk; omega
theorem info5 : (Tryz.prog.info? 5).map (fun i => (i.zero, i.size, i.bytes)) = some (some (.int .u8 0), 1, 1) := by kernel_rfl
theorem info25 : (Tryz.prog.info? 79).map (fun i => (i.zero, i.size, i.bytes)) = some (some (.agg #[.int .u8 0, .int .i64 0, .int .i64 0]), 3, 24) := by kernel_rfl
def strU (l : List UInt8) : ByteArray := strOfNums (l.map fun x => (x.toNat : Int))
theorem Bs.convert {lo hi : Nat} {w : World} {v : Value} {l : List UInt8} (h : Bs lo hi w v l) : (convert 29 9 v).run Tryz.prog w = .ok (.string (strU l)) w := by
  obtain ⟨A, c, rfl, h1, h2, h3⟩ := h
  rcases Nat.eq_zero_or_pos l.length with h0 | h0
  · obtain rfl : l = [] := List.eq_nil_of_length_eq_zero h0
    rw [run_convert_bytes_string w 29 9 5 _ _ c Tryz.underlying29 Tryz.underlying5 Tryz.underlying9]
    cases A <;> simp [Conv.bytesToString, loadCells, loadCellsFrom, strU, strOfNums]
    all_goals rfl
  · obtain ⟨b, o, rfl, _, _, hc⟩ := h3 h0
    exact run_convert_bytes_arg (P := Tryz.prog) w 29 5 Tryz.underlying29 Tryz.underlying5 b o l.length c (l.map fun x => (x.toNat : Int)) (by simp) (fun i hi => by rw [hc i (by simpa using hi)]; simp [n8, List.getD, List.getElem?_eq_getElem (show i < l.length by simpa using hi)]) 9 Tryz.underlying9
theorem strU_toList (l : List UInt8) : (strU l).toList = l := by
  have h := Lib.strOfNums_toList (l.map fun x => (x.toNat : Int))
  have e : Lib.bytesOf (l.map fun x => (x.toNat : Int)) = l := by
    unfold Lib.bytesOf
    rw [List.map_map]
    conv => rhs; rw [← List.map_id l]
    apply List.map_congr_left
    intro x _
    simp
  exact h.trans e
end Go.Proofs.YthkccpemgmpadaaGreatDoor.P.M
namespace Go.Proofs.YthkccpemgmpadaaGreatDoor.P.M
set_option maxRecDepth 100000
open Go.RowKit
set_option maxHeartbeats 400000 in
theorem long_any (t : Tok) (w : World) :
    Calls Tryz.prog 85 #[tkV t] w fun e w' => e = .returned (.int .i64 (sizeT t)) ∧ Below w.heap.size w w' := by
  obtain ⟨o, n, d⟩ := t
  go_enter Tryz.func85, Tryz.ntmps85
  go_wp2
  all_goals go_ret
  all_goals exact ⟨ret_i rfl (by simp only [sizeT, beq_iff_eq, beq_eq_false_iff_ne, ne_eq] at *; split <;> omega), by (repeat (first | with_reducible exact Below.refl _ _ | with_reducible assumption | with_reducible refine Below.drew ?_ | with_reducible refine bl_alloc ?_ _ | with_reducible refine bl_call ?_ (by assumption) | (focus (with_reducible refine Below.setCell ?_ ?_ _; rotate_left; focus (first | omega | (simp <;> omega)))) | fail))⟩
set_option maxHeartbeats 400000 in
theorem size_any (t : Tok) (w : World) (h : 0 ≤ t.len) :
    Calls Tryz.prog 98 #[tkV t] w fun e w' => e = .returned (.int .i64 (sizeT t)) ∧ Below w.heap.size w w' := by
  obtain ⟨o, n, d⟩ := t
  go_enter Tryz.func98, Tryz.ntmps98
  go_wp2
  all_goals go_ret
  all_goals exact ⟨ret_i rfl (by simp only [sizeT] at *; split <;> omega), by (repeat (first | with_reducible exact Below.refl _ _ | with_reducible assumption | with_reducible refine Below.drew ?_ | with_reducible refine bl_alloc ?_ _ | with_reducible refine bl_call ?_ (by assumption) | (focus (with_reducible refine Below.setCell ?_ ?_ _; rotate_left; focus (first | omega | (simp <;> omega)))) | fail))⟩
theorem n8_zero (o : UInt8) : o = 0 ↔ n8 o = 0 := ⟨fun h => by rw [h]; rfl, fun h => n8_inj h⟩
theorem okT_iff (o : UInt8) (n d : Int) : okT ⟨o, n, d⟩ = true ↔ (n = 0 ∧ d = 0) ∨ (n ≠ 0 ∧ n8 o = 0 ∧ 3 ≤ n ∧ n ≤ 18 ∧ 1 ≤ d ∧ d ≤ 256) := by
  rw [← n8_zero]
  by_cases h : n = 0
  · simp [okT, h]
  · simp [okT, h, and_assoc]
set_option maxHeartbeats 400000 in
theorem isTok_any (t : Tok) (w : World) :
    Calls Tryz.prog 131 #[tkV t] w fun e w' => e = .returned (.bool (okT t)) ∧ Below w.heap.size w w' := by
  obtain ⟨o, n, d⟩ := t
  go_enter Tryz.func131, Tryz.ntmps131
  go_wp2
  all_goals go_ret
  all_goals refine ⟨ret_b rfl ?_, by (repeat (first | with_reducible exact Below.refl _ _ | with_reducible assumption | with_reducible refine Below.drew ?_ | with_reducible refine bl_alloc ?_ _ | with_reducible refine bl_call ?_ (by assumption) | (focus (with_reducible refine Below.setCell ?_ ?_ _; rotate_left; focus (first | omega | (simp <;> omega)))) | fail))⟩
  all_goals (rw [Bool.eq_iff_iff]; simp only [okT_iff, beq_iff_eq, beq_eq_false_iff_ne, ne_eq, decide_eq_true_eq, Bool.false_eq_true, false_iff] at *; omega)
set_option maxHeartbeats 400000 in
theorem one_any (t : Tok) (m : Nat) (w : World) :
    Calls Tryz.prog 125 #[tkV t, .int .i64 m] w fun e w' => e = .returned (.bool (okT t && decide (t.dist ≤ m))) ∧ Below w.heap.size w w' := by
  obtain ⟨o, n, d⟩ := t
  go_enter Tryz.func125, Tryz.ntmps125
  go_wp2
  all_goals go_ret
  all_goals refine ⟨ret_b rfl ?_, by (repeat (first | with_reducible exact Below.refl _ _ | with_reducible assumption | with_reducible refine Below.drew ?_ | with_reducible refine bl_alloc ?_ _ | with_reducible refine bl_call ?_ (by assumption) | (focus (with_reducible refine Below.setCell ?_ ?_ _; rotate_left; focus (first | omega | (simp <;> omega)))) | fail))⟩
  all_goals (rw [Bool.eq_iff_iff]; simp only [okT_iff, beq_iff_eq, beq_eq_false_iff_ne, ne_eq, decide_eq_true_eq, Bool.and_eq_true, Bool.false_eq_true, false_iff] at *; omega)
def badE (b : Bool) : Int := if b then 0 else 1
def okB (l : List Tok) : Bool := decide (l.length ≤ 65536) && okL 0 l
def longN (l : List Tok) : Int := if okB l then sumT l else 0
theorem okB_iff {l : List Tok} : okB l = true ↔ l.length ≤ 65536 ∧ okL 0 l = true := by simp [okB]
theorem ret_ii {v v' : Value} {a b a' b' : Int} (h : v = .int .i64 a) (h' : v' = .int .i64 b) (e : a = a') (e' : b = b') : Ending.returned (.tuple #[v, v']) = .returned (.tuple #[.int .i64 a', .int .i64 b']) := by rw [h, h', e, e']
theorem okL_at {l : List Tok} {k : Nat} (h : k < l.length) (hw : okL 0 l = okL (sumT (l.take k)) (l.drop k)) (c : okT l[k] = true) (d : l[k].dist ≤ sumT (l.take k)) : okL 0 l = okL (sumT (l.take (k + 1))) (l.drop (k + 1)) := by
  rw [hw, List.drop_eq_getElem_cons h, okL, c, sumT_snoc h]; simp [d]
theorem okL_not {l : List Tok} {k : Nat} (h : k < l.length) (hw : okL 0 l = okL (sumT (l.take k)) (l.drop k)) (c : ¬ (okT l[k] = true ∧ l[k].dist ≤ sumT (l.take k))) : okL 0 l = false := by
  rw [hw, List.drop_eq_getElem_cons h, okL]
  cases h1 : okT l[k]
  · rfl
  · have : ¬ l[k].dist ≤ sumT (l.take k) := fun h2 => c ⟨h1, h2⟩
    simp [this]
set_option maxHeartbeats 1000000 in
theorem Long_any (lo : Nat) (v : Value) (l : List Tok) (w : World) (h : Tks lo w.heap.size w v l) :
    Calls Tryz.prog 111 #[v] w fun e w' => e = .returned (.tuple #[.int .i64 (longN l), .int .i64 (badE (okB l))]) ∧ Below w.heap.size w w' := by
  obtain ⟨A, c, rfl, h1, h2, h3⟩ := h.open
  clear h
  by_cases hl : l.length ≤ 65536
  · have hk : okB l = okL 0 l := by simp [okB, hl]
    replace hk := hide hk; replace h3 := hide h3
    go_enter Tryz.func111, Tryz.ntmps111
    go_wp2
    go_loopw [4, 12] (fun sm i wr => ∃ (k : Nat) (s : Int), k ≤ l.length ∧ i = .int .i64 k ∧ sm = .int .i64 s ∧ 0 ≤ s ∧ s ≤ 18 * k ∧ Hid (s = sumT (l.take k)) ∧ Hid (okL 0 l = okL s (l.drop k)) ∧ Hid (Below w.heap.size w wr)) (fun _ i _ => l.length - (intOf i).toNat)
    case atStart => exact ⟨0, 0, Nat.zero_le _, rfl, rfl, by omega, by omega, hide (by simp [sumT]), hide (by simp), hide (by (repeat (first | with_reducible exact Below.refl _ _ | with_reducible assumption | with_reducible refine Below.drew ?_ | with_reducible refine bl_alloc ?_ _ | with_reducible refine bl_call ?_ (by assumption) | (focus (with_reducible refine Below.setCell ?_ ?_ _; rotate_left; focus (first | omega | (simp <;> omega)))) | fail)))⟩
    case round =>
      obtain ⟨k, s, hk', rfl, rfl, hs0, hs1, hs, hw, hb⟩ := hrel
      by_cases hlt : k < l.length
      · obtain ⟨b, off, rfl, g1, g2, q0, q1, q2⟩ := unhide h3 k hlt
        have c0 := ((unhide hb).cell (p := ⟨b, off + k * 3, none⟩) g2).trans q0
        have c1 := ((unhide hb).cell (p := ⟨b, off + k * 3 + 1, none⟩) g2).trans q1
        have c2 := ((unhide hb).cell (p := ⟨b, off + k * 3 + 2, none⟩) g2).trans q2
        have e1 : Hid (okT l[k] = true → l[k].dist ≤ s → sumT (l.take (k + 1)) = s + sizeT l[k] ∧ okL 0 l = okL (s + sizeT l[k]) (l.drop (k + 1)) ∧ 1 ≤ sizeT l[k] ∧ sizeT l[k] ≤ 18) := hide fun x y => by
          have z1 := unhide hs
          have z2 := unhide hw
          have z3 := sumT_snoc hlt
          subst z1
          exact ⟨z3, by rw [← z3]; exact okL_at hlt z2 x y, okT_size x⟩
        have e2 : Hid (¬ (okT l[k] = true ∧ l[k].dist ≤ s) → okL 0 l = false) := hide fun x => by
          have z1 := unhide hs
          have z2 := unhide hw
          subst z1
          exact okL_not hlt z2 x
        clear q0 q1 q2 g1 g2
        generalize l[k] = t at *
        have ht := fun W => isTok_any t W
        have hg := fun W => long_any t W
        unfold tkV at ht hg
        replace ht := hide ht; replace hg := hide hg
        cases ho : okT t with
        | true =>
          by_cases hd : t.dist ≤ s
          · obtain ⟨x1, x2, x3, x4⟩ := unhide e1 ho hd
            replace x1 := hide x1; replace x2 := hide x2; replace ho := hide ho
            clear e1 e2
            go_wp2_with (first
              | (go_at_call 131; refine (unhide ht _).mono ?_; rintro e w1 ⟨rfl, hb1⟩; rw [unhide ho]; obtain ⟨hc1, hf1⟩ := bcell hb1; have hz1 := hb1.size; (try simp at hz1))
              | (go_at_call 85; refine (unhide hg _).mono ?_; rintro e w2 ⟨rfl, hb2⟩; obtain ⟨hc2, hf2⟩ := bcell hb2; have hz2 := hb2.size; (try simp at hz2)))
            have hb0 := unhide hb
            go_roundw
            case rel => exact ⟨k + 1, s + sizeT t, by omega, by go_num, rfl, by omega, by omega, hide (unhide x1).symm, x2, hide (by (repeat (first | with_reducible exact Below.refl _ _ | with_reducible assumption | with_reducible refine Below.drew ?_ | with_reducible refine bl_alloc ?_ _ | with_reducible refine bl_call ?_ (by assumption) | (focus (with_reducible refine Below.setCell ?_ ?_ _; rotate_left; focus (first | omega | (simp <;> omega)))) | fail)))⟩
            case measure => simp [intOf]; omega
          · have x := unhide e2 fun h => hd h.2
            replace x := hide x; replace ho := hide ho
            clear e1 e2
            go_wp2_with (go_at_call 131; refine (unhide ht _).mono ?_; rintro e w1 ⟨rfl, hb1⟩; rw [unhide ho]; obtain ⟨hc1, hf1⟩ := bcell hb1; have hz1 := hb1.size; (try simp at hz1))
            have hb0 := unhide hb
            go_ret2
            exact ⟨ret_ii rfl rfl (by simp [longN, unhide hk, unhide x]) (by simp [badE, unhide hk, unhide x]), by (repeat (first | with_reducible exact Below.refl _ _ | with_reducible assumption | with_reducible refine Below.drew ?_ | with_reducible refine bl_alloc ?_ _ | with_reducible refine bl_call ?_ (by assumption) | (focus (with_reducible refine Below.setCell ?_ ?_ _; rotate_left; focus (first | omega | (simp <;> omega)))) | fail))⟩
        | false =>
          have x := unhide e2 fun h => by rw [ho] at h; cases h.1
          replace x := hide x; replace ho := hide ho
          clear e1 e2
          go_wp2_with (go_at_call 131; refine (unhide ht _).mono ?_; rintro e w1 ⟨rfl, hb1⟩; rw [unhide ho])
          have hb0 := unhide hb
          go_ret2
          exact ⟨ret_ii rfl rfl (by simp [longN, unhide hk, unhide x]) (by simp [badE, unhide hk, unhide x]), by (repeat (first | with_reducible exact Below.refl _ _ | with_reducible assumption | with_reducible refine Below.drew ?_ | with_reducible refine bl_alloc ?_ _ | with_reducible refine bl_call ?_ (by assumption) | (focus (with_reducible refine Below.setCell ?_ ?_ _; rotate_left; focus (first | omega | (simp <;> omega)))) | fail))⟩
      · obtain rfl : k = l.length := by omega
        have hb0 := unhide hb
        go_wp2
        go_ret2
        have z2 := unhide hw
        rw [List.drop_length] at z2
        have z1 := unhide hs
        rw [List.take_length] at z1
        have z3 : okB l = true := by rw [unhide hk, z2]; rfl
        exact ⟨ret_ii rfl rfl (by simp [longN, z3, z1]) (by simp [badE, z3]), by (repeat (first | with_reducible exact Below.refl _ _ | with_reducible assumption | with_reducible refine Below.drew ?_ | with_reducible refine bl_alloc ?_ _ | with_reducible refine bl_call ?_ (by assumption) | (focus (with_reducible refine Below.setCell ?_ ?_ _; rotate_left; focus (first | omega | (simp <;> omega)))) | fail))⟩
  · have hk : okB l = false := by simp [okB, hl]
    replace hk := hide hk
    clear h3
    go_enter Tryz.func111, Tryz.ntmps111
    go_wp2
    go_ret2
    exact ⟨ret_ii rfl rfl (by simp [longN, unhide hk]) (by simp [badE, unhide hk]), by (repeat (first | with_reducible exact Below.refl _ _ | with_reducible assumption | with_reducible refine Below.drew ?_ | with_reducible refine bl_alloc ?_ _ | with_reducible refine bl_call ?_ (by assumption) | (focus (with_reducible refine Below.setCell ?_ ?_ _; rotate_left; focus (first | omega | (simp <;> omega)))) | fail))⟩
theorem Check_any (lo : Nat) (v : Value) (l : List Tok) (w : World) (h : Tks lo w.heap.size w v l) :
    Calls Tryz.prog 86 #[v] w fun e w' => e = .returned (.int .i64 (badE (okB l))) ∧ Below w.heap.size w w' := by
  have hl := Long_any lo v l w h
  obtain ⟨A, c, rfl, h1, h2, h3⟩ := h.open
  clear h h3
  replace hl := hide hl
  go_enter Tryz.func86, Tryz.ntmps86
  go_wp2_with (go_at_call 111; refine (unhide hl).mono ?_; rintro e w1 ⟨rfl, hb1⟩)
  go_ret
  exact ⟨rfl, hb1⟩
theorem below_drewN {w w' : World} {B : Nat} (h : Below B w w') (n : Nat) : Below B w (w'.drewN n) := ⟨h.os, h.tape, h.output, h.size, h.block⟩
theorem u8_ne {x y : UInt8} (h : ¬ x = y) : (n8 x == n8 y) = false := by rw [n8_eql]; simp [h]
theorem u8_eq {x y : UInt8} (h : x = y) : (n8 x == n8 y) = true := by rw [n8_eql]; simp [h]
set_option maxHeartbeats 2000000 in
theorem alike_any (lo : Nat) (v : Value) (l : List UInt8) (f a : Nat) (w : World) (h : Bs lo w.heap.size w v l) (hf : f < a) (ha : a ≤ l.length) (hL : l.length ≤ 65536) :
    Calls Tryz.prog 115 #[v, .int .i64 f, .int .i64 a] w fun e w' => e = .returned (.int .i64 (alkF l f a 18 : Nat)) ∧ Below w.heap.size w w' := by
  obtain ⟨A, c, rfl, h1, h2, h3⟩ := h.open
  clear h
  obtain ⟨F, hF⟩ : ∃ F : Int, F = (f : Int) := ⟨_, rfl⟩
  obtain ⟨G, hG⟩ : ∃ G : Int, G = (a : Int) := ⟨_, rfl⟩
  obtain ⟨N, hN⟩ : ∃ N : Int, N = (alkF l f a 18 : Nat) := ⟨_, rfl⟩
  rw [← hF, ← hG, ← hN]
  have j1 : 0 ≤ F := by omega
  have j2 : F < G := by omega
  have j3 : G ≤ (l.length : Int) := by omega
  replace h3 := hide h3; replace hF := hide hF; replace hG := hide hG; replace hN := hide hN
  go_enter Tryz.func115, Tryz.ntmps115
  go_wp2
  go_loopw [7] (fun i wr => ∃ (K : Int), 0 ≤ K ∧ K ≤ 18 ∧ G + K ≤ l.length ∧ i = .int .i64 K ∧ Hid (alkF l f a 18 = K.toNat + alkF l (f + K.toNat) (a + K.toNat) (18 - K.toNat)) ∧ Hid (Below w.heap.size w wr)) (fun i _ => 18 - (intOf i).toNat)
  case atStart => exact ⟨0, by omega, by omega, by omega, rfl, hide (by simp), hide (by (repeat (first | with_reducible exact Below.refl _ _ | with_reducible assumption | with_reducible refine Below.drew ?_ | with_reducible refine bl_alloc ?_ _ | with_reducible refine bl_call ?_ (by assumption) | (focus (with_reducible refine Below.setCell ?_ ?_ _; rotate_left; focus (first | omega | (simp <;> omega)))) | fail)))⟩
  case round =>
    obtain ⟨K, k0, k1, k2, rfl, hk, hb⟩ := hrel
    have hF' := unhide hF
    have hG' := unhide hG
    have i1 : IntKind.i64.wrap (F + K) = F + K := IntWalk.i64_in _ (by omega)
    have i2 : IntKind.i64.wrap (G + K) = G + K := IntWalk.i64_in _ (by omega)
    have i3 : IntKind.i64.wrap (K + 1) = K + 1 := IntWalk.i64_in _ (by omega)
    have i4 : 0 ≤ F + K := by omega
    have i5 : 0 ≤ G + K := by omega
    have t1 : (F + K).toNat = f + K.toNat := by omega
    have t2 : (G + K).toNat = a + K.toNat := by omega
    have t3 : (K + 1).toNat = K.toNat + 1 := by omega
    have hb0 := unhide hb
    by_cases h18 : K < 18
    · have d1 : decide (K < 18) = true := by simpa using h18
      by_cases hlt : G + K < l.length
      · have d2 : decide (G + K < (l.length : Int)) = true := by simpa using hlt
        have i6 : F + K < (l.length : Int) := by omega
        obtain ⟨b, off, rfl, g1, g2, q1⟩ := unhide h3 (f + K.toNat) (by omega)
        obtain ⟨b', off', e, _, _, q2⟩ := unhide h3 (a + K.toNat) (by omega)
        injection e with e
        injection e with e1 e2
        subst e1 e2
        have c1 := ((unhide hb).cell (p := ⟨b, off + (f + K.toNat), none⟩) g2).trans q1
        have c2 := ((unhide hb).cell (p := ⟨b, off + (a + K.toNat), none⟩) g2).trans q2
        by_cases hx : l.getD (f + K.toNat) 0 = l.getD (a + K.toNat) 0
        · have hn := alkF_go (unhide hk) (by omega) (by omega) hx
          have hx' := u8_eq hx
          generalize l.getD (f + K.toNat) 0 = x at *
          generalize l.getD (a + K.toNat) 0 = y at *
          rw [← t1] at c1
          rw [← t2] at c2
          have y1 : b < wr.heap.size := World.block_lt_of_cell? wr _ c1
          clear q1 q2 hx hF' hG' t1 t2 h18 hk
          replace t3 := hide t3; replace hb0 := hide hb0; replace hn := hide hn
          go_wp2_with fail
          go_quiet (fail)
          go_wp2_with fail
          clear i1 i2 i3
          go_roundw
          case rel => exact ⟨K + 1, by omega, by simp only [decide_eq_true_eq] at d1; omega, by omega, rfl, hide (by rw [unhide t3]; exact unhide hn), hide (below_drewN (unhide hb0) _)⟩
          case measure => simp [intOf]; simp only [decide_eq_true_eq] at d1; omega
        · have hn := alkF_stop (unhide hk) (fun h => hx h.2.2)
          have hx' := u8_ne hx
          generalize l.getD (f + K.toNat) 0 = x at *
          generalize l.getD (a + K.toNat) 0 = y at *
          rw [← t1] at c1
          rw [← t2] at c2
          have y1 : b < wr.heap.size := World.block_lt_of_cell? wr _ c1
          clear q1 q2 hx hF' hG' t1 t2 h18 hk
          replace t3 := hide t3; replace hb0 := hide hb0; replace hn := hide hn
          go_wp2_with fail
          go_quiet (fail)
          go_wp2_with fail
          go_ret
          exact ⟨ret_i rfl (by have := unhide hn; have := unhide hN; omega), below_drewN (unhide hb0) _⟩
      · have d2 : decide (G + K < (l.length : Int)) = false := by simpa using hlt
        have hn := alkF_stop (unhide hk) (fun h => hlt (by omega))
        clear hF' hG' t1 t2 h18 hk hlt
        replace t3 := hide t3; replace hb0 := hide hb0; replace hn := hide hn
        go_wp2_with fail
        go_quiet (fail)
        go_wp2_with fail
        go_ret
        exact ⟨ret_i rfl (by have := unhide hn; have := unhide hN; omega), below_drewN (unhide hb0) _⟩
    · have d1 : decide (K < 18) = false := by simpa using h18
      have hn := alkF_stop (unhide hk) (fun h => h18 (by omega))
      clear hF' hG' t1 t2 h18 hk
      replace t3 := hide t3; replace hb0 := hide hb0; replace hn := hide hn
      go_wp2_with fail
      go_quiet (fail)
      go_wp2_with fail
      go_ret
      exact ⟨ret_i rfl (by have := unhide hn; have := unhide hN; omega), below_drewN (unhide hb0) _⟩
theorem ret_tk {fn : Func} {p u : Tmp} {R : Ending → World → Prop} {a : Act} {w : World} (h : fn.results = #[.cell p 79, .tmp u]) (g : Nat) (x y z v : Value)
    (hp : a.tmps.getD p undef = .pointer (some ⟨g, 0, none⟩)) (hu : a.tmps.getD u undef = v) (hg : Blk w g 79 #[x, y, z]) (hd : a.defers = []) (hR : R (.returned (.tuple #[.agg #[x, y, z], v])) w) : bodyPost Tryz.prog fn R .ret a w := by
  refine bodyPost_ret (v := .tuple #[.agg #[x, y, z], v]) ?_ hd hR
  rw [results_cell_tmp h, hp, hu]
  have hl := run_loadVar_row (P := Tryz.prog) w g 79 79 #[x, y, z] (0, 0) _ hg Tryz.underlying79 rfl (by kernel_rfl)
  simp [asAddr, Result.andThen, hl]
theorem ret_tki {x y z v : Value} {t : Tok} {r : Int} (h0 : x = .int .u8 (n8 t.lit)) (h1 : y = .int .i64 t.len) (h2 : z = .int .i64 t.dist) (h3 : v = .int .i64 r) :
    Ending.returned (.tuple #[.agg #[x, y, z], v]) = .returned (.tuple #[.agg #[.int .u8 (n8 t.lit), .int .i64 t.len, .int .i64 t.dist], .int .i64 r]) := by rw [h0, h1, h2, h3]
set_option maxHeartbeats 2000000 in
theorem Find_any (lo : Nat) (v : Value) (l : List UInt8) (at_ : Int) (t : Tok) (er : Int) (w : World) (h : Bs lo w.heap.size w v l) (hr : findR l at_ = (t, er)) :
    Calls Tryz.prog 84 #[v, .int .i64 at_] w fun e w' => e = .returned (.tuple #[.agg #[.int .u8 (n8 t.lit), .int .i64 t.len, .int .i64 t.dist], .int .i64 er]) ∧ Below w.heap.size w w' := by
  have hal := fun (f a : Nat) (W : World) (hb : Below w.heap.size w W) => alike_any lo v l f a W (h.grow hb)
  obtain ⟨A, c, rfl, h1, h2, _⟩ := h.open
  clear h
  by_cases hL : 65536 < l.length
  · rw [findR, if_pos hL] at hr
    replace hal := hide hal; replace hr := hide hr
    go_enter Tryz.func84, Tryz.ntmps84
    go_wp2
    have hr' := unhide hr
    injection hr' with r1 r2
    subst r1 r2
    refine ret_tk rfl w.heap.size (.int .u8 0) (.int .i64 0) (.int .i64 0) (.int .i64 3) rfl rfl ?_ rfl ⟨rfl, by (repeat (first | with_reducible exact Below.refl _ _ | with_reducible assumption | with_reducible refine Below.drew ?_ | with_reducible refine bl_alloc ?_ _ | with_reducible refine bl_call ?_ (by assumption) | (focus (with_reducible refine Below.setCell ?_ ?_ _; rotate_left; focus (first | omega | (simp <;> omega)))) | fail))⟩
    (repeat (first | with_reducible assumption | (focus (with_reducible refine Blk.new ?_; focus (simp <;> fail))) | with_reducible refine Blk.set3 (a := .int .u8 0) (b := .int .i64 0) (c := .int .i64 0) ?_ | with_reducible refine Blk.alloc ?_ _ | with_reducible refine Blk.drew ?_ | (focus (with_reducible refine Blk.far ?_ ?_ _; rotate_left; focus (first | omega | (simp <;> omega)))) | (focus (with_reducible refine Blk.below ?_ hb1 ?_; rotate_left; focus (first | omega | (simp <;> omega)))) | (focus (with_reducible refine Blk.below ?_ hb2 ?_; rotate_left; focus (first | omega | (simp <;> omega)))) | (focus (with_reducible refine Blk.below ?_ hb3 ?_; rotate_left; focus (first | omega | (simp <;> omega)))) | (focus (with_reducible refine Blk.below ?_ hb4 ?_; rotate_left; focus (first | omega | (simp <;> omega)))) | (focus (with_reducible refine Blk.below ?_ hb5 ?_; rotate_left; focus (first | omega | (simp <;> omega)))) | (focus (with_reducible refine Blk.below ?_ hb6 ?_; rotate_left; focus (first | omega | (simp <;> omega)))) | (focus (with_reducible refine Blk.below ?_ hb7 ?_; rotate_left; focus (first | omega | (simp <;> omega)))) | (focus (with_reducible refine Blk.below ?_ hb8 ?_; rotate_left; focus (first | omega | (simp <;> omega)))) | (focus (with_reducible refine Blk.below ?_ hb9 ?_; rotate_left; focus (first | omega | (simp <;> omega)))) | (focus (with_reducible refine Blk.below ?_ hb10 ?_; rotate_left; focus (first | omega | (simp <;> omega)))) | (focus (with_reducible refine Blk.below ?_ hb11 ?_; rotate_left; focus (first | omega | (simp <;> omega)))) | (focus (with_reducible refine Blk.below ?_ hb12 ?_; rotate_left; focus (first | omega | (simp <;> omega)))) | fail))
  · by_cases ha : at_ < 0 ∨ (l.length : Int) ≤ at_
    · rw [findR, if_neg hL, if_pos ha] at hr
      replace hal := hide hal; replace hr := hide hr; replace ha := hide ha
      go_enter Tryz.func84, Tryz.ntmps84
      go_wp2
      all_goals (have ha' := unhide ha; first | (exfalso; omega) | skip)
      all_goals (have hr' := unhide hr; injection hr' with r1 r2; subst r1 r2; refine ret_tk rfl w.heap.size (.int .u8 0) (.int .i64 0) (.int .i64 0) (.int .i64 1) rfl rfl ?_ rfl ⟨rfl, by (repeat (first | with_reducible exact Below.refl _ _ | with_reducible assumption | with_reducible refine Below.drew ?_ | with_reducible refine bl_alloc ?_ _ | with_reducible refine bl_call ?_ (by assumption) | (focus (with_reducible refine Below.setCell ?_ ?_ _; rotate_left; focus (first | omega | (simp <;> omega)))) | fail))⟩; (repeat (first | with_reducible assumption | (focus (with_reducible refine Blk.new ?_; focus (simp <;> fail))) | with_reducible refine Blk.set3 (a := .int .u8 0) (b := .int .i64 0) (c := .int .i64 0) ?_ | with_reducible refine Blk.alloc ?_ _ | with_reducible refine Blk.drew ?_ | (focus (with_reducible refine Blk.far ?_ ?_ _; rotate_left; focus (first | omega | (simp <;> omega)))) | (focus (with_reducible refine Blk.below ?_ hb1 ?_; rotate_left; focus (first | omega | (simp <;> omega)))) | (focus (with_reducible refine Blk.below ?_ hb2 ?_; rotate_left; focus (first | omega | (simp <;> omega)))) | (focus (with_reducible refine Blk.below ?_ hb3 ?_; rotate_left; focus (first | omega | (simp <;> omega)))) | (focus (with_reducible refine Blk.below ?_ hb4 ?_; rotate_left; focus (first | omega | (simp <;> omega)))) | (focus (with_reducible refine Blk.below ?_ hb5 ?_; rotate_left; focus (first | omega | (simp <;> omega)))) | (focus (with_reducible refine Blk.below ?_ hb6 ?_; rotate_left; focus (first | omega | (simp <;> omega)))) | (focus (with_reducible refine Blk.below ?_ hb7 ?_; rotate_left; focus (first | omega | (simp <;> omega)))) | (focus (with_reducible refine Blk.below ?_ hb8 ?_; rotate_left; focus (first | omega | (simp <;> omega)))) | (focus (with_reducible refine Blk.below ?_ hb9 ?_; rotate_left; focus (first | omega | (simp <;> omega)))) | (focus (with_reducible refine Blk.below ?_ hb10 ?_; rotate_left; focus (first | omega | (simp <;> omega)))) | (focus (with_reducible refine Blk.below ?_ hb11 ?_; rotate_left; focus (first | omega | (simp <;> omega)))) | (focus (with_reducible refine Blk.below ?_ hb12 ?_; rotate_left; focus (first | omega | (simp <;> omega)))) | fail)))
    · rw [findR, if_neg hL, if_neg ha] at hr
      obtain ⟨a, rfl⟩ : ∃ a : Nat, at_ = a := ⟨at_.toNat, by omega⟩
      rw [Int.toNat_natCast] at hr
      have ha' : a < l.length := by omega
      obtain ⟨G, hG⟩ : ∃ G : Int, G = (a : Int) := ⟨_, rfl⟩
      have hal' : ∀ (f : Nat) (F : Int) (W : World), Below w.heap.size w W → f < a → F = (f : Int) → Calls Tryz.prog 115 #[.slice A l.length c, .int .i64 F, .int .i64 G] W fun e w' => e = .returned (.int .i64 (alkF l f a 18 : Nat)) ∧ Below W.heap.size W w' := fun f F W hb hf hF => by
        rw [hF, hG]
        exact hal f a W hb hf (by omega) (by omega)
      clear hal
      rw [← hG]
      have j1 : 0 ≤ G := by omega
      have j2 : G < (l.length : Int) := by omega
      have j3 : (l.length : Int) ≤ 65536 := by omega
      replace hal' := hide hal'; replace hr := hide hr; replace hG := hide hG
      clear ha ha' hL
      go_enter Tryz.func84, Tryz.ntmps84
      go_wp2
      go_loopw [7] (fun i wr => ∃ (I m d : Int), 1 ≤ I ∧ I ≤ 257 ∧ I ≤ G + 1 ∧ i = .int .i64 I ∧ 0 ≤ m ∧ m ≤ 18 ∧ Hid ((bestF l a (I - 1).toNat).1 = m ∧ (bestF l a (I - 1).toNat).2 = d) ∧ Hid (Below w.heap.size w wr) ∧ Hid (Blk wr w.heap.size 79 #[.int .u8 0, .int .i64 0, .int .i64 0]) ∧ Hid (Blk wr (w.heap.size + 1) 79 #[.int .u8 0, .int .i64 m, .int .i64 d])) (fun i _ => 258 - (intOf i).toNat)
      case atStart => exact ⟨1, 2, 0, by omega, by omega, by omega, rfl, by omega, by omega, hide ⟨rfl, rfl⟩, hide (by (repeat (first | with_reducible exact Below.refl _ _ | with_reducible assumption | with_reducible refine Below.drew ?_ | with_reducible refine bl_alloc ?_ _ | with_reducible refine bl_call ?_ (by assumption) | (focus (with_reducible refine Below.setCell ?_ ?_ _; rotate_left; focus (first | omega | (simp <;> omega)))) | fail))), hide (by (repeat (first | with_reducible assumption | (focus (with_reducible refine Blk.new ?_; focus (simp <;> fail))) | with_reducible refine Blk.set3 (a := .int .u8 0) (b := .int .i64 0) (c := .int .i64 0) ?_ | with_reducible refine Blk.alloc ?_ _ | with_reducible refine Blk.drew ?_ | (focus (with_reducible refine Blk.far ?_ ?_ _; rotate_left; focus (first | omega | (simp <;> omega)))) | (focus (with_reducible refine Blk.below ?_ hb1 ?_; rotate_left; focus (first | omega | (simp <;> omega)))) | (focus (with_reducible refine Blk.below ?_ hb2 ?_; rotate_left; focus (first | omega | (simp <;> omega)))) | (focus (with_reducible refine Blk.below ?_ hb3 ?_; rotate_left; focus (first | omega | (simp <;> omega)))) | (focus (with_reducible refine Blk.below ?_ hb4 ?_; rotate_left; focus (first | omega | (simp <;> omega)))) | (focus (with_reducible refine Blk.below ?_ hb5 ?_; rotate_left; focus (first | omega | (simp <;> omega)))) | (focus (with_reducible refine Blk.below ?_ hb6 ?_; rotate_left; focus (first | omega | (simp <;> omega)))) | (focus (with_reducible refine Blk.below ?_ hb7 ?_; rotate_left; focus (first | omega | (simp <;> omega)))) | (focus (with_reducible refine Blk.below ?_ hb8 ?_; rotate_left; focus (first | omega | (simp <;> omega)))) | (focus (with_reducible refine Blk.below ?_ hb9 ?_; rotate_left; focus (first | omega | (simp <;> omega)))) | (focus (with_reducible refine Blk.below ?_ hb10 ?_; rotate_left; focus (first | omega | (simp <;> omega)))) | (focus (with_reducible refine Blk.below ?_ hb11 ?_; rotate_left; focus (first | omega | (simp <;> omega)))) | (focus (with_reducible refine Blk.below ?_ hb12 ?_; rotate_left; focus (first | omega | (simp <;> omega)))) | fail))), hide (by (repeat (first | with_reducible assumption | (focus (with_reducible refine Blk.new ?_; focus (simp <;> fail))) | with_reducible refine Blk.set3 (a := .int .u8 0) (b := .int .i64 0) (c := .int .i64 0) ?_ | with_reducible refine Blk.alloc ?_ _ | with_reducible refine Blk.drew ?_ | (focus (with_reducible refine Blk.far ?_ ?_ _; rotate_left; focus (first | omega | (simp <;> omega)))) | (focus (with_reducible refine Blk.below ?_ hb1 ?_; rotate_left; focus (first | omega | (simp <;> omega)))) | (focus (with_reducible refine Blk.below ?_ hb2 ?_; rotate_left; focus (first | omega | (simp <;> omega)))) | (focus (with_reducible refine Blk.below ?_ hb3 ?_; rotate_left; focus (first | omega | (simp <;> omega)))) | (focus (with_reducible refine Blk.below ?_ hb4 ?_; rotate_left; focus (first | omega | (simp <;> omega)))) | (focus (with_reducible refine Blk.below ?_ hb5 ?_; rotate_left; focus (first | omega | (simp <;> omega)))) | (focus (with_reducible refine Blk.below ?_ hb6 ?_; rotate_left; focus (first | omega | (simp <;> omega)))) | (focus (with_reducible refine Blk.below ?_ hb7 ?_; rotate_left; focus (first | omega | (simp <;> omega)))) | (focus (with_reducible refine Blk.below ?_ hb8 ?_; rotate_left; focus (first | omega | (simp <;> omega)))) | (focus (with_reducible refine Blk.below ?_ hb9 ?_; rotate_left; focus (first | omega | (simp <;> omega)))) | (focus (with_reducible refine Blk.below ?_ hb10 ?_; rotate_left; focus (first | omega | (simp <;> omega)))) | (focus (with_reducible refine Blk.below ?_ hb11 ?_; rotate_left; focus (first | omega | (simp <;> omega)))) | (focus (with_reducible refine Blk.below ?_ hb12 ?_; rotate_left; focus (first | omega | (simp <;> omega)))) | fail)))⟩
      case round =>
        obtain ⟨I, m, d, k0, k1, k2, rfl, hm0, hm18, hm, hb, hB0, hB1⟩ := hrel
        have hG' := unhide hG
        have q1 := (unhide hB1).cell 1
        have q2 := (unhide hB1).cell 2
        have q0 := (unhide hB1).cell 0
        simp at q0 q1 q2
        have p0 := (unhide hB1).frozen 0
        have p1 := (unhide hB1).frozen 1
        have p2 := (unhide hB1).frozen 2
        have y0 : w.heap.size < wr.heap.size := (unhide hB0).lt
        have y1 : w.heap.size + 1 < wr.heap.size := (unhide hB1).lt
        have i1 : IntKind.i64.wrap (I + 1) = I + 1 := IntWalk.i64_in _ (by omega)
        have i2 : IntKind.i64.wrap (G - I) = G - I := IntWalk.i64_in _ (by omega)
        by_cases hlt : I ≤ 256 ∧ I ≤ G
        · obtain ⟨l1, l2⟩ := hlt
          have ha : Hid (∀ W : World, Below w.heap.size w W → Calls Tryz.prog 115 #[.slice A l.length c, .int .i64 (G - I), .int .i64 G] W fun e w' => e = .returned (.int .i64 (alkF l (a - I.toNat) a 18 : Nat)) ∧ Below W.heap.size W w') :=
            hide fun W hW => unhide hal' (a - I.toNat) (G - I) W hW (by omega) (by omega)
          have hbst : Hid (bestF l a (I + 1 - 1).toNat = if m < (alkF l (a - I.toNat) a 18 : Nat) then (alkF l (a - I.toNat) a 18, I.toNat) else bestF l a (I - 1).toNat) := by
            refine hide ?_
            rw [show (I + 1 - 1).toNat = (I - 1).toNat + 1 by omega, bestF, show (I - 1).toNat + 1 = I.toNat by omega, ← (unhide hm).1]
            simp
          have hle := alkF_le l (a - I.toNat) a 18
          clear hG'
          generalize alkF l (a - I.toNat) a 18 = n at *
          obtain ⟨N, hN⟩ : ∃ N : Int, N = (n : Int) := ⟨_, rfl⟩
          rw [← hN] at ha hbst
          have n0 : 0 ≤ N := by omega
          have n1 : N ≤ 18 := by omega
          replace hN := hide hN
          clear hle
          go_wp2_with (go_at_call 115; refine (unhide ha _ (by exact unhide hb)).mono ?_; rintro e w1 ⟨rfl, hb1⟩; obtain ⟨hc1, hf1⟩ := bcell hb1; have hz1 := hb1.size)
          · have hb0 := unhide hb
            have hn : m < N := by assumption
            go_roundw
            case rel =>
              refine ⟨I + 1, N, I, by omega, by omega, by omega, rfl, n0, n1, hide ?_, hide (by (repeat (first | with_reducible exact Below.refl _ _ | with_reducible assumption | with_reducible refine Below.drew ?_ | with_reducible refine bl_alloc ?_ _ | with_reducible refine bl_call ?_ (by assumption) | (focus (with_reducible refine Below.setCell ?_ ?_ _; rotate_left; focus (first | omega | (simp <;> omega)))) | fail))), hide ?_, hide ?_⟩
              · rw [unhide hbst, if_pos hn]; exact ⟨(unhide hN).symm, by simp only []; omega⟩
              · have B0 := unhide hB0
                exact Blk.far (Blk.far (Blk.far (B0.below hb1 y0) (by simp) _) (by simp) _) (by simp) _
              · exact Blk.set3 (Blk.below (unhide hB1) hb1 y1)
            case measure => simp [intOf]; omega
          · have hb0 := unhide hb
            have hn : ¬ m < N := by omega
            go_roundw
            case rel =>
              refine ⟨I + 1, m, d, by omega, by omega, by omega, rfl, hm0, hm18, hide ?_, hide (by (repeat (first | with_reducible exact Below.refl _ _ | with_reducible assumption | with_reducible refine Below.drew ?_ | with_reducible refine bl_alloc ?_ _ | with_reducible refine bl_call ?_ (by assumption) | (focus (with_reducible refine Below.setCell ?_ ?_ _; rotate_left; focus (first | omega | (simp <;> omega)))) | fail))), hide (Blk.below (unhide hB0) hb1 y0), hide (Blk.below (unhide hB1) hb1 y1)⟩
              rw [unhide hbst, if_neg hn]; exact unhide hm
            case measure => simp [intOf]; omega
        · have hI : (I - 1).toNat = min a 256 := by omega
          have hm1 := unhide hm
          rw [hI] at hm1
          obtain ⟨m1, m2⟩ := hm1
          have hr' := unhide hr
          rw [m1, m2] at hr'
          have u0 := (unhide hB0).cell 0
          have u1 := (unhide hB0).cell 1
          have u2 := (unhide hB0).cell 2
          simp at u0 u1 u2
          have v0 := (unhide hB0).frozen 0
          have v1 := (unhide hB0).frozen 1
          have v2 := (unhide hB0).frozen 2
          by_cases hd : d = 0
          · rw [if_pos (by omega)] at hr'
            injection hr' with r1 r2
            subst r1 r2 hd
            clear hG' m1 m2 hI i1 i2 hr hal' hm
            go_wp2_with fail
            all_goals (have B0 := unhide hB0; have hb0 := unhide hb)
            all_goals (refine ret_tk rfl w.heap.size (.int .u8 0) (.int .i64 0) (.int .i64 0) (.int .i64 4) rfl rfl ?_ rfl ⟨ret_tki rfl rfl rfl rfl, by (repeat (first | with_reducible exact Below.refl _ _ | with_reducible assumption | with_reducible refine Below.drew ?_ | with_reducible refine bl_alloc ?_ _ | with_reducible refine bl_call ?_ (by assumption) | (focus (with_reducible refine Below.setCell ?_ ?_ _; rotate_left; focus (first | omega | (simp <;> omega)))) | fail))⟩; (repeat (first | with_reducible assumption | (focus (with_reducible refine Blk.new ?_; focus (simp <;> fail))) | with_reducible refine Blk.set3 (a := .int .u8 0) (b := .int .i64 0) (c := .int .i64 0) ?_ | with_reducible refine Blk.alloc ?_ _ | with_reducible refine Blk.drew ?_ | (focus (with_reducible refine Blk.far ?_ ?_ _; rotate_left; focus (first | omega | (simp <;> omega)))) | (focus (with_reducible refine Blk.below ?_ hb1 ?_; rotate_left; focus (first | omega | (simp <;> omega)))) | (focus (with_reducible refine Blk.below ?_ hb2 ?_; rotate_left; focus (first | omega | (simp <;> omega)))) | (focus (with_reducible refine Blk.below ?_ hb3 ?_; rotate_left; focus (first | omega | (simp <;> omega)))) | (focus (with_reducible refine Blk.below ?_ hb4 ?_; rotate_left; focus (first | omega | (simp <;> omega)))) | (focus (with_reducible refine Blk.below ?_ hb5 ?_; rotate_left; focus (first | omega | (simp <;> omega)))) | (focus (with_reducible refine Blk.below ?_ hb6 ?_; rotate_left; focus (first | omega | (simp <;> omega)))) | (focus (with_reducible refine Blk.below ?_ hb7 ?_; rotate_left; focus (first | omega | (simp <;> omega)))) | (focus (with_reducible refine Blk.below ?_ hb8 ?_; rotate_left; focus (first | omega | (simp <;> omega)))) | (focus (with_reducible refine Blk.below ?_ hb9 ?_; rotate_left; focus (first | omega | (simp <;> omega)))) | (focus (with_reducible refine Blk.below ?_ hb10 ?_; rotate_left; focus (first | omega | (simp <;> omega)))) | (focus (with_reducible refine Blk.below ?_ hb11 ?_; rotate_left; focus (first | omega | (simp <;> omega)))) | (focus (with_reducible refine Blk.below ?_ hb12 ?_; rotate_left; focus (first | omega | (simp <;> omega)))) | fail)))
          · rw [if_neg (by omega)] at hr'
            injection hr' with r1 r2
            subst r1 r2
            clear hG' m1 m2 hI i1 i2 hr hal' hm
            go_wp2_with fail
            all_goals (have B0 := unhide hB0; have hb0 := unhide hb)
            all_goals (refine ret_tk rfl w.heap.size (.int .u8 0) (.int .i64 m) (.int .i64 d) (.int .i64 0) rfl rfl ?_ rfl ⟨rfl, by (repeat (first | with_reducible exact Below.refl _ _ | with_reducible assumption | with_reducible refine Below.drew ?_ | with_reducible refine bl_alloc ?_ _ | with_reducible refine bl_call ?_ (by assumption) | (focus (with_reducible refine Below.setCell ?_ ?_ _; rotate_left; focus (first | omega | (simp <;> omega)))) | fail))⟩; (repeat (first | with_reducible assumption | (focus (with_reducible refine Blk.new ?_; focus (simp <;> fail))) | with_reducible refine Blk.set3 (a := .int .u8 0) (b := .int .i64 0) (c := .int .i64 0) ?_ | with_reducible refine Blk.alloc ?_ _ | with_reducible refine Blk.drew ?_ | (focus (with_reducible refine Blk.far ?_ ?_ _; rotate_left; focus (first | omega | (simp <;> omega)))) | (focus (with_reducible refine Blk.below ?_ hb1 ?_; rotate_left; focus (first | omega | (simp <;> omega)))) | (focus (with_reducible refine Blk.below ?_ hb2 ?_; rotate_left; focus (first | omega | (simp <;> omega)))) | (focus (with_reducible refine Blk.below ?_ hb3 ?_; rotate_left; focus (first | omega | (simp <;> omega)))) | (focus (with_reducible refine Blk.below ?_ hb4 ?_; rotate_left; focus (first | omega | (simp <;> omega)))) | (focus (with_reducible refine Blk.below ?_ hb5 ?_; rotate_left; focus (first | omega | (simp <;> omega)))) | (focus (with_reducible refine Blk.below ?_ hb6 ?_; rotate_left; focus (first | omega | (simp <;> omega)))) | (focus (with_reducible refine Blk.below ?_ hb7 ?_; rotate_left; focus (first | omega | (simp <;> omega)))) | (focus (with_reducible refine Blk.below ?_ hb8 ?_; rotate_left; focus (first | omega | (simp <;> omega)))) | (focus (with_reducible refine Blk.below ?_ hb9 ?_; rotate_left; focus (first | omega | (simp <;> omega)))) | (focus (with_reducible refine Blk.below ?_ hb10 ?_; rotate_left; focus (first | omega | (simp <;> omega)))) | (focus (with_reducible refine Blk.below ?_ hb11 ?_; rotate_left; focus (first | omega | (simp <;> omega)))) | (focus (with_reducible refine Blk.below ?_ hb12 ?_; rotate_left; focus (first | omega | (simp <;> omega)))) | fail)))
end Go.Proofs.YthkccpemgmpadaaGreatDoor.P.M
