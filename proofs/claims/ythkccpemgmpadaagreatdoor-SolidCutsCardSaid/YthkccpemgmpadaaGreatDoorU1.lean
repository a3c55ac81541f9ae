import Derived.Test.YthkccpemgmpadaaGreatDoorProg
import Derived.WalkKit
import Derived.Handy
import Derived.Lib.SliceRun
import Derived.WalkSpells
import Derived.WalkLawsBesides
import Derived.Lib.Hide
import Derived.Deep.QuietTactic
import Derived.BigQuiet
import Derived.Deep.RegionHeld3
import Derived.Laws.CopyOwn
import Derived.Deep.AppendLies
import Derived.Deep.LoopGhost
import Derived.StillTailTactics
import Derived.Laws.BitsAllLaws
import Derived.Lib.Bytes
import Derived.Lib.AppendZeros
import Derived.Deep.DeepCutAuto
import Derived.Lib.SlBytesConst
import Derived.Laws.StructEq
import Derived.Laws.Cover3
/- Registers and sums, plain: nothing of the program. -/
namespace Go.Proofs.YthkccpemgmpadaaGreatDoor.C
set_option maxRecDepth 100000
abbrev Reg := BitVec 32
def oddC : Reg := 3988292384#32
def half1 (r : Reg) : Reg := (r >>> 1) ^^^ (oddC &&& -(r &&& 1#32))
def halfN : Nat → Reg → Reg
  | 0, r => r
  | n + 1, r => half1 (halfN n r)
def oct (c : UInt8) : Reg := c.toBitVec.setWidth 32
def step1 (r : Reg) (c : UInt8) : Reg := halfN 8 (r ^^^ oct c)
def stepR (r : Reg) (l : List UInt8) : Reg := l.foldl step1 r
def sumR (l : List UInt8) : Reg := ~~~ stepR 4294967295#32 l
def octs (s : Reg) : List UInt8 := [⟨s.setWidth 8⟩, ⟨(s >>> 8).setWidth 8⟩, ⟨(s >>> 16).setWidth 8⟩, ⟨(s >>> 24).setWidth 8⟩]
theorem neg_lsb (r : Reg) : -(r &&& 1#32) = if r.getLsbD 0 then BitVec.allOnes 32 else 0#32 := by
  have h : r &&& 1#32 = if r.getLsbD 0 then 1#32 else 0#32 := by
    ext i hi
    simp only [BitVec.getElem_and, BitVec.getElem_one]
    rcases Nat.eq_zero_or_pos i with h0 | h0
    · subst h0
      by_cases hb : r.getLsbD 0
      · rw [if_pos hb]; simpa using hb
      · rw [if_neg hb]; simpa using hb
    · have : ¬ i = 0 := by omega
      by_cases hb : r.getLsbD 0
      · rw [if_pos hb]; simp [BitVec.getElem_one, this]
      · rw [if_neg hb]; simp [this]
  rw [h]
  by_cases hb : r.getLsbD 0
  · rw [if_pos hb, if_pos hb]; decide
  · rw [if_neg hb, if_neg hb]; decide
theorem half1_if (r : Reg) : half1 r = (r >>> 1) ^^^ (if r.getLsbD 0 then oddC else 0#32) := by
  unfold half1
  rw [neg_lsb]
  by_cases hb : r.getLsbD 0
  · rw [if_pos hb, if_pos hb, BitVec.and_allOnes]
  · rw [if_neg hb, if_neg hb, BitVec.and_zero]
theorem stepR_append (r : Reg) (l m : List UInt8) : stepR r (l ++ m) = stepR (stepR r l) m := List.foldl_append
theorem stepR_snoc (r : Reg) (l : List UInt8) (c : UInt8) : stepR r (l ++ [c]) = step1 (stepR r l) c := stepR_append r l [c]
theorem octs_len (s : Reg) : (octs s).length = 4 := rfl
end Go.Proofs.YthkccpemgmpadaaGreatDoor.C

namespace Go.Proofs.YthkccpemgmpadaaGreatDoor.C
set_option maxRecDepth 100000
open Go.RowKit
def u8v (x : UInt8) : Value := .int .u8 (x.toNat : Int)
def Bs (lo hi : Nat) (w : World) (v : Value) (l : List UInt8) : Prop :=
  ∃ A c, v = .slice A l.length c ∧ l.length ≤ c ∧ c ≤ 9223372036854775807 ∧
    (0 < l.length → ∃ b off, A = some ⟨b, off, none⟩ ∧ lo ≤ b ∧ b < hi ∧ ∀ i (h : i < l.length), w.cell? ⟨b, off + i, none⟩ = some (u8v l[i]))
def Agree (lo hi : Nat) (w w' : World) : Prop := ∀ k, lo ≤ k → k < hi → w'.heap[k]? = w.heap[k]?
theorem Agree.of_below {lo hi B : Nat} {w w' : World} (h : Below B w w') (hb : hi ≤ B) : Agree lo hi w w' := fun k _ hk => h.block k (by omega)
theorem Agree.refl (lo hi : Nat) (w : World) : Agree lo hi w w := fun _ _ _ => rfl
theorem Bs.keep {lo hi : Nat} {w w' : World} {v : Value} {l : List UInt8} (h : Bs lo hi w v l) (k : Agree lo hi w w') : Bs lo hi w' v l := by
  obtain ⟨A, c, rfl, h1, h2, h3⟩ := h
  refine ⟨A, c, rfl, h1, h2, fun h0 => ?_⟩
  obtain ⟨b, off, rfl, hb, hb', hc⟩ := h3 h0
  exact ⟨b, off, rfl, hb, hb', fun i hi => (World.cell?_of_block (k b hb hb')).trans (hc i hi)⟩
theorem Bs.mono {lo lo' hi hi' : Nat} {w : World} {v : Value} {l : List UInt8} (h : Bs lo hi w v l) (h1 : lo' ≤ lo) (h2 : hi ≤ hi') : Bs lo' hi' w v l := by
  obtain ⟨A, c, rfl, a1, a2, h3⟩ := h
  refine ⟨A, c, rfl, a1, a2, fun h0 => ?_⟩
  obtain ⟨b, off, rfl, hb, hb', hc⟩ := h3 h0
  exact ⟨b, off, rfl, by omega, by omega, hc⟩
theorem Bs.below {lo hi B : Nat} {w w' : World} {v : Value} {l : List UInt8} (h : Bs lo hi w v l) (hb : Below B w w') (hB : hi ≤ B) : Bs lo hi w' v l :=
  h.keep (Agree.of_below hb hB)
theorem bl_alloc {a w : World} (h : Below a.heap.size a w) (o : Obj) : Below a.heap.size a (w.alloc o) := h.alloc h.size o
theorem bl_call {a w w' : World} (h : Below a.heap.size a w) (h' : Below w.heap.size w w') : Below a.heap.size a w' := h.trans (h'.mono h.size)
theorem bl_grown {a w w' : World} {row : Option Nat} (h : Below a.heap.size a w) (hg : w.grownBy w' row) (hr : ∀ k, row = some k → a.heap.size ≤ k) : Below a.heap.size a w' := h.grown hg h.size hr
theorem bcell {W w1 : World} (hb : Below W.heap.size W w1) : (∀ b o, b < W.heap.size → w1.cell? ⟨b, o, none⟩ = W.cell? ⟨b, o, none⟩) ∧ (∀ b o, b < W.heap.size → w1.frozen? ⟨b, o, none⟩ = W.frozen? ⟨b, o, none⟩) :=
  ⟨fun b o h => hb.cell (p := ⟨b, o, none⟩) h, fun b o h => hb.frozen (p := ⟨b, o, none⟩) h⟩
theorem hide {p : Prop} (h : p) : Hid p := h
theorem unhide {p : Prop} (h : Hid p) : p := h
theorem ret_b {v : Value} {b b' : Bool} (h : v = .bool b) (e : b = b') : Ending.returned v = .returned (.bool b') := by rw [h, e]
theorem ret_i {v : Value} {k : IntKind} {b b' : Int} (h : v = .int k b) (e : b = b') : Ending.returned v = .returned (.int k b') := by rw [h, e]
def SrcOk (w : World) (A : Option Addr) (m : Nat) (news : List Value) : Prop := 0 < m → ∃ ad, A = some ad ∧ ∀ j u, news[j]? = some u → w.cell? (ad.add j) = some u
theorem SrcOk.below {w w' : World} {A : Option Addr} {m : Nat} {news : List Value} (h : SrcOk w A m news) (hb : Below w.heap.size w w') : SrcOk w' A m news := fun h0 => by
  obtain ⟨ad, e, hc⟩ := h h0
  exact ⟨ad, e, fun j u hu => (hb.cell (World.block_lt_of_cell? w _ (hc j u hu))).trans (hc j u hu)⟩
section
variable {P : Program} (w : World)
theorem run_app (base : Nat) (t ty e : TypeId) (i : TypeInfo) (z : Value) (size bytes : Nat) (ht : P.underlying t = some (.slice e)) (hi : P.info? e = some i) (hz : i.zero = some z)
    (hsize : i.size = size) (hby : i.bytes = bytes) (hzs : z.cells.size = size) (hsz : 0 < size)
    (v : Value) (n : Nat) (xs : List Value) (hown : w.ownsRow base e size v n xs)
    (A : Option Addr) (m c : Nat) (news : List Value) (hl : news.length = m * size) (hr : SrcOk w A m news) (h1 : ∀ u ∈ news, u.oneCell' = true)
    (h63 : n + m ≤ maxLen) (hbytes : (n + m) * bytes ≤ 140737488355328) (hbase : base ≤ w.heap.size) :
    ∃ v' w', (Builtin.append_ #[t, t] ty #[v, .slice A m c]).run P w = .ok v' w' ∧ w'.ownsRow base e size v' (n + m) (xs ++ news) ∧ w.grownBy w' v.ownBlock := by
  rcases Nat.eq_zero_or_pos m with rfl | hm
  · have hn : news = [] := List.eq_nil_of_length_eq_zero (by simpa using hl)
    subst hn
    rcases A with _ | ad
    · refine ⟨v, w, ?_, by simpa using hown, World.grownBy.refl w _⟩
      rcases hown.2 with ⟨rfl, rfl⟩ | ⟨g, cap, cur, rfl, _, _, hnc, _⟩
      · simp [Builtin.append_, run_underlying ht, sizeOf, typeInfo, hi, Builtin.lenOf, Builtin.firstCells]
      · simp [Builtin.append_, run_underlying ht, sizeOf, typeInfo, hi, Builtin.lenOf, Builtin.firstCells, hnc, storeCells]
    · obtain ⟨v', w', a, b, c', _⟩ := run_append_own (P := P) w base t ty e i z size bytes ht hi hz hsize hby hzs hsz v n xs hown ad 0 c [] hl (by simp) h1 h63 hbytes hbase
      exact ⟨v', w', a, b, c'⟩
  · obtain ⟨ad, rfl, hc⟩ := hr hm
    obtain ⟨v', w', a, b, c', _⟩ := run_append_own (P := P) w base t ty e i z size bytes ht hi hz hsize hby hzs hsz v n xs hown ad m c news hl hc h1 h63 hbytes hbase
    exact ⟨v', w', a, b, c'⟩
theorem wp_app {o : Oper} {a : Act} {K : Act → World → Prop} {Q : Exit → Act → World → Prop} (s x : Operand) (t : TypeId)
    (ho : o.op = .call { callee := .builtin .append, args := #[s, x], argTypes := #[t, t] })
    (base : Nat) (e : TypeId) (i : TypeInfo) (z : Value) (size bytes : Nat) (ht : P.underlying t = some (.slice e)) (hi : P.info? e = some i) (hz : i.zero = some z)
    (hsize : i.size = size) (hby : i.bytes = bytes) (hzs : z.cells.size = size) (hsz : 0 < size)
    (v : Value) (n : Nat) (xs : List Value) (hs : a.eval s = v) (hown : w.ownsRow base e size v n xs)
    (A : Option Addr) (m c : Nat) (news : List Value) (hx : a.eval x = .slice A m c) (hl : news.length = m * size) (hr : SrcOk w A m news) (h1 : ∀ u ∈ news, u.oneCell' = true)
    (h63 : n + m ≤ maxLen) (hbytes : (n + m) * bytes ≤ 140737488355328) (hbase : base ≤ w.heap.size)
    (h : ∀ v' w', w'.ownsRow base e size v' (n + m) (xs ++ news) → w.grownBy w' v.ownBlock → K (a.put o.dst v') w') : o.wp P a w K Q := by
  obtain ⟨v', w', hr, h2, h3⟩ := run_app (P := P) w base t o.type e i z size bytes ht hi hz hsize hby hzs hsz v n xs hown A m c news hl hr h1 h63 hbytes hbase
  unfold Oper.wp execOp
  simp only [ho, resolve, invoke, builtin, Sem.run_bind, Sem.run_pure, Result.andThen_ok, List.map_toArray, List.map_cons, List.map_nil, hs, hx, hr]
  exact h v' w' h2 h3
theorem wpList_app {ops : Array Oper} {rest : List Oper} {o : Oper} {a : Act} {Q : Exit → Act → World → Prop} (hgd : o.guard = none) (s x : Operand) (t : TypeId)
    (ho : o.op = .call { callee := .builtin .append, args := #[s, x], argTypes := #[t, t] })
    (base : Nat) (e : TypeId) (i : TypeInfo) (z : Value) (size bytes : Nat) (ht : P.underlying t = some (.slice e)) (hi : P.info? e = some i) (hz : i.zero = some z)
    (hsize : i.size = size) (hby : i.bytes = bytes) (hzs : z.cells.size = size) (hsz : 0 < size)
    (v : Value) (n : Nat) (xs : List Value) (hs : a.eval s = v) (hown : w.ownsRow base e size v n xs)
    (A : Option Addr) (m c : Nat) (news : List Value) (hx : a.eval x = .slice A m c) (hl : news.length = m * size) (hr : SrcOk w A m news) (h1 : ∀ u ∈ news, u.oneCell' = true)
    (h63 : n + m ≤ maxLen) (hbytes : (n + m) * bytes ≤ 140737488355328) (hbase : base ≤ w.heap.size)
    (h : ∀ v' w', w'.ownsRow base e size v' (n + m) (xs ++ news) → w.grownBy w' v.ownBlock → wpList P ops Q rest (a.put o.dst v') w') : wpList P ops Q (o :: rest) a w :=
  wpList_plain hgd fun _ hK => wp_app w s x t ho base e i z size bytes ht hi hz hsize hby hzs hsz v n xs hs hown A m c news hx hl hr h1 h63 hbytes hbase fun v' w' h2 h3 => hK _ _ (h v' w' h2 h3)
end
theorem run_mk {P : Program} (t e : TypeId) (i : TypeInfo) (z : Value) (size : Nat) (ht : P.underlying t = some (.slice e)) (hi : P.info? e = some i) (hz : i.zero = some z) (hsize : i.size = size)
    (n : Nat) (hbytes : i.bytes * n ≤ 281474976710656) (h63 : n ≤ 9223372036854775807) (W : World) :
    (Instr.makeSlice t (.int .i64 (n : Int)) (.int .i64 (n : Int))).run P W = .ok (.slice (some ⟨W.heap.size, 0, none⟩) n n) (W.alloc (.cells (madeCells z.cells (n * size)) e)) := by
  subst hsize
  have hb' : (i.bytes : Int) * (n : Int) ≤ 281474976710656 := by
    have h : ((i.bytes * n : Nat) : Int) ≤ 281474976710656 := by omega
    rwa [Int.natCast_mul] at h
  have hr := run_make (P := P) W t e i z ht hi hz .i64 .i64 n n (by omega) (Int.le_refl _) hb' (by omega)
  simp only [Int.toNat_natCast] at hr
  exact hr
theorem ownsRow_len {w : World} {base : Nat} {e : TypeId} {size : Nat} {v : Value} {n : Nat} {xs : List Value} (h : w.ownsRow base e size v n xs) : xs.length = n * size := h.1
theorem ownsRow_mono {w : World} {base base' : Nat} {e : TypeId} {size : Nat} {v : Value} {n : Nat} {xs : List Value} (h : w.ownsRow base e size v n xs) (hb : base' ≤ base) : w.ownsRow base' e size v n xs := by
  obtain ⟨h1, h2⟩ := h
  refine ⟨h1, ?_⟩
  rcases h2 with h2 | ⟨g, cap, cur, hv, hg, r⟩
  · exact .inl h2
  · exact .inr ⟨g, cap, cur, hv, by omega, r⟩
theorem ownsRow_form {w : World} {base : Nat} {e : TypeId} {size : Nat} {v : Value} {n : Nat} {xs : List Value} (h : w.ownsRow base e size v n xs) : ∃ A c, v = .slice A n c := by
  rcases h.2 with ⟨rfl, rfl⟩ | ⟨g, cap, cur, rfl, _⟩
  · exact ⟨_, _, rfl⟩
  · exact ⟨_, _, rfl⟩
theorem ownsRow_setCell' {w : World} {base : Nat} {e : TypeId} {size : Nat} {v : Value} {n : Nat} {xs : List Value} (h : w.ownsRow base e size v n xs) {a : Addr} (ha : a.block < base) (u : Value) : (w.setCell a u).ownsRow base e size v n xs :=
  ownsRow_setCell_below h ha u
theorem Bs.of_own {w : World} {base : Nat} {e : TypeId} {v : Value} {l : List UInt8} (h : w.ownsRow base e 1 v l.length (l.map u8v)) : Bs base w.heap.size w v l := by
  rcases h.2 with ⟨rfl, h0⟩ | ⟨g, cap, cur, rfl, hb, hg, hnc, hcm, hcs, htake⟩
  · refine ⟨none, 0, by rw [h0], by omega, by omega, fun hp => by omega⟩
  · refine ⟨_, cap, rfl, hnc, by simpa [maxLen] using hcm, fun hp => ⟨g, 0, rfl, hb, ?_, fun i hi => ?_⟩⟩
    · rcases Nat.lt_or_ge g w.heap.size with h1 | h1
      · exact h1
      · rw [Array.getElem?_eq_none h1] at hg; cases hg
    · have hc := World.ownsRow.cellAt (w := w) (base := base) (e := e) (size := 1) (g := g) (n := l.length) (cap := cap) (xs := l.map u8v) h i (by omega)
      rw [Nat.zero_add, hc]
      simp [hi]
theorem u8s_one (l : List UInt8) : ∀ u ∈ l.map u8v, u.oneCell' = true := by
  intro u hu
  obtain ⟨x, _, rfl⟩ := List.mem_map.1 hu
  rfl
theorem Bs.src {lo hi : Nat} {w : World} {A : Option Addr} {n c : Nat} {l : List UInt8} (h : Bs lo hi w (.slice A n c) l) :
    n = l.length ∧ SrcOk w A n (l.map u8v) := by
  obtain ⟨A', c', e, _, _, h3⟩ := h
  injection e with e1 e2 e3
  subst e1 e2 e3
  refine ⟨rfl, fun h0 => ?_⟩
  obtain ⟨b, off, rfl, _, _, hc⟩ := h3 h0
  refine ⟨_, rfl, fun j u hu => ?_⟩
  rw [List.getElem?_map, Option.map_eq_some_iff] at hu
  obtain ⟨x, hx, rfl⟩ := hu
  obtain ⟨hj, rfl⟩ := List.getElem?_eq_some_iff.1 hx
  have := hc j hj
  unfold Addr.add
  split
  · rename_i h0; subst h0; simpa using this
  · exact this
def Blk (w : World) (g : Nat) (t : TypeId) (cs : Array Value) : Prop := w.heap[g]? = some (.cells cs t (0, 0))
section
variable {w w' : World} {g : Nat} {t : TypeId} {cs : Array Value}
theorem Blk.lt (h : Blk w g t cs) : g < w.heap.size := by
  rcases Nat.lt_or_ge g w.heap.size with h1 | h1
  · exact h1
  · unfold Blk at h; rw [Array.getElem?_eq_none h1] at h; cases h
theorem Blk.cell (h : Blk w g t cs) (i : Nat) : w.cell? ⟨g, i, none⟩ = cs[i]? := cell_of_row w g i cs t (0, 0) h
theorem Blk.frozen (h : Blk w g t cs) (i : Nat) : w.frozen? ⟨g, i, none⟩ = false := frozen_of_row w g i cs t h
theorem Blk.new (hg : g = w.heap.size) : Blk (w.alloc (.cells cs t)) g t cs := by subst hg; exact heap_alloc_new w _
theorem Blk.drew (h : Blk w g t cs) : Blk w.drew g t cs := h
theorem Blk.drewN (h : Blk w g t cs) (n : Nat) : Blk (w.drewN n) g t cs := h
theorem Blk.alloc (h : Blk w g t cs) (o : Obj) : Blk (w.alloc o) g t cs := (Below.heap_alloc w o g h.lt).trans h
theorem Blk.set (h : Blk w g t cs) (i : Nat) (u : Value) : Blk (w.setCell ⟨g, i, none⟩ u) g t (cs.setIfInBounds i u) := heap_setCell_same w g i cs t u h
theorem Blk.far (h : Blk w g t cs) {p : Addr} (hp : g ≠ p.block) (u : Value) : Blk (w.setCell p u) g t cs := (Below.heap_setCell w p u g hp).trans h
theorem Blk.below {B : Nat} (h : Blk w g t cs) (hb : Below B w w') (hg : g < B) : Blk w' g t cs := (hb.block g hg).trans h
theorem Blk.ne_ {g' : Nat} {t' : TypeId} {cs' : Array Value} (h : Blk w g t cs) (h' : Blk w g' t' cs') (hne : t ≠ t') : g ≠ g' := by
  rintro rfl
  unfold Blk at h h'
  rw [h] at h'
  injection h' with h'
  injection h' with _ ht
  exact hne ht
theorem Blk.uniq {cs' : Array Value} (h : Blk w g t cs) (h' : Blk w g t cs') : cs = cs' := by
  unfold Blk at h h'
  rw [h] at h'
  injection h' with h'
  injection h'
end
theorem own_below {w w' : World} {base B : Nat} {e : TypeId} {size : Nat} {v : Value} {n : Nat} {xs : List Value} (h : w.ownsRow base e size v n xs) (hb : Below B w w') (hB : w.heap.size ≤ B) : w'.ownsRow base e size v n xs := by
  obtain ⟨h1, h2⟩ := h
  refine ⟨h1, ?_⟩
  rcases h2 with h2 | ⟨g, cap, cur, hv, hg, hh, r⟩
  · exact .inl h2
  · have hl : g < w.heap.size := Blk.lt (t := e) (cs := cur) hh
    exact .inr ⟨g, cap, cur, hv, hg, (hb.block g (by omega)).trans hh, r⟩
theorem own_far {w : World} {base : Nat} {e : TypeId} {size : Nat} {v : Value} {n : Nat} {xs : List Value} (h : w.ownsRow base e size v n xs) {g : Nat} {t : TypeId} {cs : Array Value} (hg : Blk w g t cs) (hne : e ≠ t) (i : Nat) (u : Value) : (w.setCell ⟨g, i, none⟩ u).ownsRow base e size v n xs := by
  obtain ⟨h1, h2⟩ := h
  refine ⟨h1, ?_⟩
  rcases h2 with h2 | ⟨g', cap, cur, hv, hb, hh, r⟩
  · exact .inl h2
  · have : g' ≠ g := Blk.ne_ (t := e) (cs := cur) hh hg hne
    exact .inr ⟨g', cap, cur, hv, hb, (Below.heap_setCell w ⟨g, i, none⟩ u g' this).trans hh, r⟩
theorem Blk.set3 {w : World} {g : Nat} {t : TypeId} {a b c x y z : Value} (h : Blk w g t #[a, b, c]) : Blk (((w.setCell ⟨g, 0, none⟩ x).setCell ⟨g, 1, none⟩ y).setCell ⟨g, 2, none⟩ z) g t #[x, y, z] := by
  simpa using ((h.set 0 x).set 1 y).set 2 z
theorem Blk.set2 {w : World} {g : Nat} {t : TypeId} {a b x y : Value} (h : Blk w g t #[a, b]) : Blk ((w.setCell ⟨g, 0, none⟩ x).setCell ⟨g, 1, none⟩ y) g t #[x, y] := by
  simpa using (h.set 0 x).set 1 y
def VBelow (B : Nat) (v : Value) : Prop := ∀ a n c, v = .slice (some a) n c → a.block < B
theorem own_vbelow {w : World} {base : Nat} {e : TypeId} {size : Nat} {v : Value} {n : Nat} {xs : List Value} (h : w.ownsRow base e size v n xs) : VBelow w.heap.size v := by
  intro a n' c hv
  rcases h.2 with ⟨h1, _⟩ | ⟨g, cap, cur, h1, _, hh, _⟩
  · rw [h1] at hv; injection hv with hv; cases hv
  · rw [h1] at hv
    injection hv with hv
    injection hv with hv
    subst hv
    exact Blk.lt (t := e) (cs := cur) hh
def u32v (x : Reg) : Value := .int .u32 (x.toNat : Int)
section
variable (t : TypeId) (x y : Reg)
theorem ofInt_reg : BitVec.ofInt IntKind.u32.bits (x.toNat : Int) = x := by
  show BitVec.ofInt 32 (x.toNat : Int) = x
  rw [BitVec.ofInt_natCast, BitVec.ofNat_toNat, BitVec.setWidth_eq]
theorem wrap_reg : IntKind.u32.wrap ((x.toNat : Nat) : Int) = (x.toNat : Int) := by
  have := x.isLt
  rw [IntKind.wrap_u32']
  omega
theorem u32v_xor : binOp .xor t (u32v x) (u32v y) = pure (u32v (x ^^^ y)) := by
  unfold u32v
  rw [binOp_xor]
  simp only [Op.intBits]
  rw [ofInt_reg, ofInt_reg]
  exact congrArg (fun z => (pure (Value.int .u32 z) : Sem Value)) (wrap_reg (x ^^^ y))
theorem u32v_and : binOp .and t (u32v x) (u32v y) = pure (u32v (x &&& y)) := by
  unfold u32v
  rw [binOp_and]
  simp only [Op.intBits]
  rw [ofInt_reg, ofInt_reg]
  exact congrArg (fun z => (pure (Value.int .u32 z) : Sem Value)) (wrap_reg (x &&& y))
theorem u32v_and1 : binOp .and t (u32v x) (.int .u32 1) = pure (u32v (x &&& 1#32)) := u32v_and t x 1#32
theorem u32v_andC : binOp .and t (.int .u32 3988292384) (u32v y) = pure (u32v (oddC &&& y)) := u32v_and t oddC y
theorem u32v_not : Op.unary .xor (u32v x) = pure (u32v (~~~ x)) := by
  have h := u32v_xor 0 4294967295#32 x
  have e : (4294967295#32 : Reg) ^^^ x = ~~~ x := by
    have : (4294967295#32 : Reg) = BitVec.allOnes 32 := by decide
    rw [this]
    ext i hi
    simp only [BitVec.getElem_xor, BitVec.getElem_not, BitVec.getElem_allOnes]
    cases x[i] <;> rfl
  rw [e] at h
  rw [← h]
  show Op.intBits .xor .u32 (if IntKind.u32.signed then -1 else IntKind.u32.max) _ = binOp .xor 0 (.int .u32 4294967295) (.int .u32 _)
  rw [binOp_xor]
  rfl
theorem u32v_neg : Op.unary .neg (u32v x) = pure (u32v (- x)) := by
  show Op.intArith .sub .u32 0 _ = _
  have h : IntKind.u32.wrap (0 - (x.toNat : Int)) = ((- x).toNat : Int) := by
    rw [IntKind.wrap_u32', BitVec.toNat_neg]
    have := x.isLt
    omega
  exact congrArg (fun z => (pure (Value.int .u32 z) : Sem Value)) h
theorem u32v_shr (k : Nat) (yk : IntKind) (hk : k ≤ 32) : binOp .shr t (u32v x) (.int yk (k : Int)) = pure (u32v (x >>> k)) := by
  unfold u32v
  rw [binOp_shr]
  unfold Op.shift
  rw [if_neg (by omega)]
  have h : (x.toNat : Int).fdiv (2 ^ min ((k : Int).toNat) IntKind.u32.bits) = ((x >>> k).toNat : Int) := by
    rw [BitVec.toNat_ushiftRight, Nat.shiftRight_eq_div_pow, Int.toNat_natCast]
    have : min k IntKind.u32.bits = k := Nat.min_eq_left hk
    rw [this, Int.fdiv_eq_ediv_of_nonneg _ (by exact Int.le_of_lt (Int.pow_pos (by omega)))]
    simp
  exact congrArg (fun z => (pure (Value.int .u32 z) : Sem Value)) h
theorem u32v_shr1 : binOp .shr t (u32v x) (.int .u64 1) = pure (u32v (x >>> 1)) := u32v_shr t x 1 _ (by omega)
theorem u32v_shr8 : binOp .shr t (u32v x) (.int .u64 8) = pure (u32v (x >>> 8)) := u32v_shr t x 8 _ (by omega)
theorem u32v_shr16 : binOp .shr t (u32v x) (.int .u64 16) = pure (u32v (x >>> 16)) := u32v_shr t x 16 _ (by omega)
theorem u32v_shr24 : binOp .shr t (u32v x) (.int .u64 24) = pure (u32v (x >>> 24)) := u32v_shr t x 24 _ (by omega)
theorem u32v_eql : binOp .eql t (u32v x) (u32v y) = pure (.bool (decide (x = y))) := by
  unfold u32v
  rw [binOp_eql]
  have h : ((x.toNat : Int) == (y.toNat : Int)) = decide (x = y) := by
    rw [Bool.eq_iff_iff]
    simp only [beq_iff_eq, decide_eq_true_eq]
    exact ⟨fun h => BitVec.eq_of_toNat_eq (by omega), fun h => by rw [h]⟩
  rw [h]
theorem u32v_conv (w : World) (c : UInt8) : (convert 5 22 (u8v c)).run Tryz.prog w = .ok (u32v (oct c)) w := by
  have h : IntKind.u32.wrap (c.toNat : Int) = ((oct c).toNat : Int) := by
    have := c.toNat_lt
    rw [IntKind.wrap_u32']
    simp [oct]
    omega
  simp [convert, run_underlying Tryz.underlying5, run_underlying Tryz.underlying22, u8v, u32v, Conv.intToInt, h]
theorem u8v_conv (w : World) : (convert 22 5 (u32v x)).run Tryz.prog w = .ok (u8v ⟨x.setWidth 8⟩) w := by
  have h : IntKind.u8.wrap (x.toNat : Int) = ((⟨x.setWidth 8⟩ : UInt8).toNat : Int) := by
    rw [IntKind.wrap_u8']
    show _ = ((x.setWidth 8).toNat : Int)
    rw [BitVec.toNat_setWidth]
    omega
  simp [convert, run_underlying Tryz.underlying5, run_underlying Tryz.underlying22, u8v, u32v, Conv.intToInt, h]
end
end Go.Proofs.YthkccpemgmpadaaGreatDoor.C

namespace Go.Proofs.YthkccpemgmpadaaGreatDoor.C
set_option maxRecDepth 100000
open Go.RowKit
attribute [local go_sem] u32v_xor u32v_and1 u32v_andC u32v_not u32v_neg u32v_shr1 u32v_shr8 u32v_shr16 u32v_shr24 u32v_eql u32v_conv u8v_conv
set_option maxHeartbeats 400000 in
theorem halved_any (r : Reg) (w : World) : Calls Tryz.prog 105 #[u32v r] w fun e w' => e = .returned (u32v (halfN 8 r)) ∧ w = w' := by
  go_enter Tryz.func105, Tryz.ntmps105
  go_wp2
  go_loop [0, 3] (fun s i => ∃ k : Nat, k ≤ 8 ∧ i = .int .i64 k ∧ s = u32v (halfN k r)) (fun _ i => 8 - (intOf i).toNat)
  case atStart => exact ⟨0, by omega, rfl, rfl⟩
  case round =>
    obtain ⟨k, hk, rfl, rfl⟩ := hrel
    by_cases hlt : k < 8
    · go_wp2
      go_round
      case rel => exact ⟨k + 1, by omega, by go_num, rfl⟩
      case measure => simp [intOf]; omega
    · obtain rfl : k = 8 := by omega
      go_wp2
      go_ret
      exact ⟨rfl, rfl⟩
theorem take_snoc {l : List UInt8} {k : Nat} (h : k < l.length) : l.take (k + 1) = l.take k ++ [l[k]] := by
  rw [List.take_add_one, List.getElem?_eq_getElem h]; rfl
set_option maxHeartbeats 400000 in
theorem step_any (lo hi : Nat) (v : Value) (l : List UInt8) (r : Reg) (w : World) (h : Bs lo hi w v l) :
    Calls Tryz.prog 69 #[u32v r, v] w fun e w' => e = .returned (u32v (stepR r l)) ∧ w = w' := by
  obtain ⟨A, c, rfl, h1, h2, h3⟩ := h
  go_enter Tryz.func69, Tryz.ntmps69
  go_wp2
  go_loop [0, 9] (fun s i => ∃ k : Nat, k ≤ l.length ∧ i = .int .i64 k ∧ s = u32v (stepR r (l.take k))) (fun _ i => l.length - (intOf i).toNat)
  case atStart => exact ⟨0, by omega, rfl, rfl⟩
  case round =>
    obtain ⟨k, hk, rfl, rfl⟩ := hrel
    by_cases hlt : k < l.length
    · obtain ⟨b, off, rfl, _, _, hc0⟩ := h3 (by omega)
      have hc := hc0 k hlt
      have hs : stepR r (l.take (k + 1)) = step1 (stepR r (l.take k)) l[k] := by rw [take_snoc hlt, stepR_snoc]
      replace hs := hide hs
      clear h3 hc0
      generalize stepR r (l.take k) = s at *
      generalize l[k] = o at *
      go_wp2_with (go_at_call 105; refine (halved_any _ _).mono ?_; rintro e w' ⟨rfl, rfl⟩)
      go_round
      case rel => exact ⟨k + 1, by omega, by go_num, by rw [unhide hs]; rfl⟩
      case measure => simp [intOf]; omega
    · obtain rfl : k = l.length := by omega
      go_wp2
      go_ret
      exact ⟨rfl, rfl⟩
theorem sum_any (lo hi : Nat) (v : Value) (l : List UInt8) (w : World) (h : Bs lo hi w v l) :
    Calls Tryz.prog 39 #[v] w fun e w' => e = .returned (u32v (sumR l)) ∧ w = w' := by
  have hs : Calls Tryz.prog 69 #[.int .u32 4294967295, v] w fun e w' => e = .returned (u32v (stepR 4294967295#32 l)) ∧ w = w' := step_any lo hi v l 4294967295#32 w h
  obtain ⟨A, c, rfl, h1, h2, h3⟩ := h
  replace hs := hide hs
  clear h3
  go_enter Tryz.func39, Tryz.ntmps39
  go_wp2_with (go_at_call 69; refine (unhide hs).mono ?_; rintro e w' ⟨rfl, rfl⟩)
  go_ret
  exact ⟨rfl, rfl⟩
def low8 (x : Reg) : Int := ((⟨x.setWidth 8⟩ : UInt8).toNat : Int)
theorem low8_conv (w : World) (x : Reg) : (convert 22 5 (u32v x)).run Tryz.prog w = .ok (.int .u8 (low8 x)) w := u8v_conv x w
def octsV (s : Reg) : Value := .agg #[.int .u8 (low8 s), .int .u8 (low8 (s >>> 8)), .int .u8 (low8 (s >>> 16)), .int .u8 (low8 (s >>> 24))]
section
attribute [-go_sem] u8v_conv
attribute [local go_sem] low8_conv
set_option maxHeartbeats 400000 in
theorem octets_any (s : Reg) (w : World) :
    Calls Tryz.prog 62 #[u32v s] w fun e w' => e = .returned (octsV s) ∧ Below w.heap.size w w' := by
  go_enter Tryz.func62, Tryz.ntmps62
  go_wp2
  exact bodyPost_ret (v := octsV s) (by simp [results, Tryz.results62, go_sem, octsV]) rfl ⟨rfl, by (repeat (first | with_reducible exact Below.refl _ _ | with_reducible assumption | with_reducible refine Below.drew ?_ | with_reducible refine bl_alloc ?_ _ | with_reducible refine bl_call ?_ (by assumption) | (focus (with_reducible refine Below.setCell ?_ ?_ _; rotate_left; focus (first | omega | (simp <;> omega)))) | fail))⟩
end
end Go.Proofs.YthkccpemgmpadaaGreatDoor.C

namespace Go.Proofs.YthkccpemgmpadaaGreatDoor.C
set_option maxRecDepth 100000
open Go.RowKit
theorem own_fresh (w : World) (base g : Nat) (e : TypeId) (size c : Nat) (cs : Array Value) (hg : g = w.heap.size) (hb : base ≤ w.heap.size) (hc : c ≤ maxLen) (hs : cs.size = c * size) :
    (w.alloc (.cells cs e)).ownsRow base e size (.slice (some ⟨g, 0, none⟩) 0 c) 0 [] := by
  subst hg
  exact ⟨by simp, .inr ⟨w.heap.size, c, cs, rfl, hb, heap_alloc_new w _, Nat.zero_le _, hc, hs, by simp⟩⟩
theorem own_drew {w : World} {base : Nat} {e : TypeId} {size : Nat} {v : Value} {n : Nat} {xs : List Value} (h : w.ownsRow base e size v n xs) : w.drew.ownsRow base e size v n xs := h
theorem own_base {w : World} {base : Nat} {e : TypeId} {size : Nat} {v : Value} {n : Nat} {xs : List Value} (h : w.ownsRow base e size v n xs) : ∀ k, v.ownBlock = some k → base ≤ k := by
  intro k hk
  rcases h.2 with ⟨rfl, _⟩ | ⟨g, cap, cur, rfl, hb, _⟩
  · simp [Value.ownBlock] at hk
  · simp [Value.ownBlock] at hk; omega
theorem info5 : (Tryz.prog.info? 5).map (fun i => (i.zero, i.size, i.bytes)) = some (some (.int .u8 0), 1, 1) := by kernel_rfl
set_option maxHeartbeats 400000 in
theorem bclone0 (lo : Nat) (v : Value) (l : List UInt8) (w : World) (h : Bs lo w.heap.size w v l) (hL : l.length ≤ 1000000) :
    Calls Tryz.prog 37 #[v] w fun e w' => ∃ v', e = .returned v' ∧ w'.ownsRow w.heap.size 5 1 v' l.length (l.map u8v) ∧ Below w.heap.size w w' := by
  obtain ⟨i0, hi0, hz0, hz1, hz2⟩ := info_parts info5
  have h' := h
  obtain ⟨A, c, rfl, h1, h2, h3⟩ := h'
  have hs := h.src
  clear h h3
  have q22 : ∀ (w : World) (a : Option Addr) (n c : Nat), (binOp .eql 29 (.slice a n c) (.slice none 0 0)).run Tryz.prog w = .ok (.bool a.isNone) w := fun w a n c => Lib.run_eql_slice_nil w _ _ a n c 0 0 Tryz.underlying29
  obtain ⟨xs, hxs⟩ : ∃ xs, xs = l.map u8v := ⟨_, rfl⟩
  have hxl : xs.length = l.length := by rw [hxs]; simp
  have hx1 : ∀ u ∈ xs, u.oneCell' = true := by rw [hxs]; exact u8s_one l
  rw [← hxs] at hs ⊢
  clear hxs
  generalize l.length = n at *
  have HS := hs.2
  have HX := Lib.hid hxl; have HX1 := Lib.hid hx1; clear hs hxl hx1
  have hb1 : 0 + n ≤ maxLen := by simp only [maxLen]; omega
  have hb2 : (0 + n) * 1 ≤ 140737488355328 := by omega
  rcases A with _ | ad
  · have hn0 : n = 0 := by
      rcases Nat.eq_zero_or_pos n with h0 | h0
      · exact h0
      · obtain ⟨ad, e, _⟩ := HS h0; cases e
    subst hn0
    obtain rfl : xs = [] := List.eq_nil_of_length_eq_zero HX.out
    go_enter Tryz.func37, Tryz.ntmps37
    go_wp2
    go_ret
    exact ⟨_, rfl, World.ownsRow_nil _ _ _ _, Below.refl _ _⟩
  · have hz : w.heap.size ≤ (w.alloc (.cells #[] 5)).heap.size := by simp
    have HZ := Lib.hid hz; clear hz
    go_enter Tryz.func37, Tryz.ntmps37
    go_wp2_with (first
      | (at_builtin
         refine wpList_app _ rfl (.tmp 5) (.tmp 6) 29 rfl w.heap.size 5 i0 _ 1 1 Tryz.underlying29 hi0 hz0 hz1 hz2 rfl (Nat.succ_pos _) _ 0 [] rfl (World.ownsRow_lit w #[] 0 (Nat.le_refl _) (Nat.zero_le _) rfl) (some ad) n c xs rfl (HX.out.trans (Nat.mul_one _).symm) (HS.below ((Below.refl _ _).alloc (Nat.le_refl _) _)) HX1.out hb1 hb2 HZ.out ?_
         intro v' w1 hown hg))
    go_ret
    refine ⟨_, rfl, by simpa using hown, ?_⟩
    refine bl_grown ((Below.refl _ _).alloc (Nat.le_refl _) _) hg ?_
    intro k hk
    simp [Act.eval, Value.ownBlock] at hk
    omega
theorem bclone (lo : Nat) (v : Value) (l : List UInt8) (w : World) (h : Bs lo w.heap.size w v l) (hL : l.length ≤ 1000000) :
    Calls Tryz.prog 37 #[v] w fun e w' => ∃ A' c', e = .returned (.slice A' l.length c') ∧ w'.ownsRow w.heap.size 5 1 (.slice A' l.length c') l.length (l.map u8v) ∧ Below w.heap.size w w' :=
  (bclone0 lo v l w h hL).mono fun e w' ⟨v', he, ho, hb⟩ => by
    obtain ⟨A', c', rfl⟩ := ownsRow_form ho
    exact ⟨A', c', he, ho, hb⟩
set_option maxHeartbeats 1000000 in
theorem grow_any (n : Nat) (w : World) (h0 : 0 < n) (hn : n ≤ 1000000) :
    Calls Tryz.prog 38 #[.slice none 0 0, .int .i64 n] w fun e w' => ∃ A c, e = .returned (.slice A 0 c) ∧ w'.ownsRow w.heap.size 5 1 (.slice A 0 c) 0 [] ∧ Below w.heap.size w w' := by
  obtain ⟨i0, hi0, hz0, hz1, hz2⟩ := info_parts info5
  have hrun := fun W => Lib.run_append_nil_zeros (P := Tryz.prog) W 29 3 29 5 i0 _ .i64 .i64 Tryz.underlying29 Tryz.underlying3 hi0 hz0 n h0 (by rw [hz1]; omega) (by omega) (by rw [hz2]; omega)
  have hge := grownCap_ge w n 0 5
  have hle := grownCap_le_maxLen w n 0 5 (by simp [maxLen]; omega)
  have y0 : (0 : Int) < (n : Int) := by omega
  have y1 : (0 : Int) ≤ (n : Int) := by omega
  replace hrun := hide hrun
  go_enter Tryz.func38, Tryz.ntmps38
  go_wp2_with (first
    | (at_builtin
       refine Lib.wpList_append_run _ rfl (.tmp 20) (.tmp 21) 29 3 rfl _ _ rfl rfl _ _ (unhide hrun _) ?_)
    | fail)
  go_ret
  refine ⟨_, _, rfl, own_drew (own_fresh _ _ _ 5 1 _ _ rfl (Nat.le_refl _) hle ?_), by (repeat (first | with_reducible exact Below.refl _ _ | with_reducible assumption | with_reducible refine Below.drew ?_ | with_reducible refine bl_alloc ?_ _ | with_reducible refine bl_call ?_ (by assumption) | (focus (with_reducible refine Below.setCell ?_ ?_ _; rotate_left; focus (first | omega | (simp <;> omega)))) | fail))⟩
  simp [Builtin.zeroCells]
  omega
end Go.Proofs.YthkccpemgmpadaaGreatDoor.C

namespace Go.Proofs.YthkccpemgmpadaaGreatDoor.C
set_option maxRecDepth 100000
open Go.RowKit
def Lists (lo : Nat) (w : World) (g : Nat) (Ls : List (List UInt8)) : Prop :=
  ∀ k (hk : k < Ls.length), ∃ A c, w.cell? ⟨g, k, none⟩ = some (.slice A Ls[k].length c) ∧ Bs lo w.heap.size w (.slice A Ls[k].length c) Ls[k]
theorem take_flat {Ls : List (List UInt8)} {k : Nat} (hk : k < Ls.length) : (Ls.take (k + 1)).flatten = (Ls.take k).flatten ++ Ls[k] := by
  have h : Ls.take (k + 1) = Ls.take k ++ [Ls[k]] := by
    rw [List.take_add_one, List.getElem?_eq_getElem hk]; rfl
  rw [h, List.flatten_append, List.flatten_singleton]
def upto (Ls : List (List UInt8)) (k : Nat) : Nat := (Ls.take k).flatten.length
theorem upto_succ {Ls : List (List UInt8)} {k : Nat} (hk : k < Ls.length) : upto Ls (k + 1) = upto Ls k + Ls[k].length := by
  unfold upto; rw [take_flat hk, List.length_append]
def cat (Ls : List (List UInt8)) (k : Nat) : List UInt8 := (Ls.take k).flatten
theorem cat_succ {Ls : List (List UInt8)} {k : Nat} (hk : k < Ls.length) : cat Ls (k + 1) = cat Ls k ++ Ls[k] := take_flat hk
theorem upto_cat (Ls : List (List UInt8)) (k : Nat) : (cat Ls k).length = upto Ls k := rfl
theorem flat_le (Ls : List (List UInt8)) (k : Nat) : upto Ls k ≤ upto Ls Ls.length := by
  unfold upto
  rw [List.take_length]
  have h : Ls.flatten = (Ls.take k).flatten ++ (Ls.drop k).flatten := by rw [← List.flatten_append, List.take_append_drop]
  rw [h]; simp
set_option maxHeartbeats 2000000 in
theorem concat_any (lo g : Nat) (Ls : List (List UInt8)) (w : World) (h : Lists lo w g Ls) (hg : g < w.heap.size) (hn : Ls.length ≤ 1000) (h0 : 0 < upto Ls Ls.length) (hL : upto Ls Ls.length ≤ 1000000) :
    Calls Tryz.prog 20 #[.slice (some ⟨g, 0, none⟩) Ls.length Ls.length] w fun e w' => ∃ A c, e = .returned (.slice A (upto Ls Ls.length) c) ∧ w'.ownsRow w.heap.size 5 1 (.slice A (upto Ls Ls.length) c) (upto Ls Ls.length) ((cat Ls Ls.length).map u8v) ∧ Below w.heap.size w w' := by
  obtain ⟨i0, hi0, hz0, hz1, hz2⟩ := info_parts info5
  obtain ⟨n, hn'⟩ : ∃ n, n = Ls.length := ⟨_, rfl⟩
  have hfl := flat_le Ls
  have hgrow := fun W => grow_any (upto Ls Ls.length) W h0 hL
  rw [← hn'] at hfl hgrow hL h0 ⊢
  replace h := hide h; replace hn' := hide hn'; replace hfl := hide hfl; replace hgrow := hide hgrow
  have hn2 : n ≤ 1000 := by rw [unhide hn']; exact hn
  clear hn
  go_enter Tryz.func20, Tryz.ntmps20
  go_wp2_with fail
  go_loopw [3, 11] (fun s3 s11 wr => ∃ k : Nat, k ≤ n ∧ s11 = .int .i64 k ∧ s3 = .int .i64 (upto Ls k : Nat) ∧ w = wr) (fun _ i _ => n - (intOf i).toNat)
  case atStart => exact ⟨0, by omega, rfl, rfl, rfl⟩
  case round =>
    obtain ⟨k, hk, rfl, rfl, rfl⟩ := hrel
    by_cases hlt : k < n
    · have hlt' : k < Ls.length := by rw [← unhide hn']; exact hlt
      obtain ⟨A, c, hc, _⟩ := unhide h k hlt'
      have ha : upto Ls (k + 1) = upto Ls k + Ls[k].length := upto_succ hlt'
      have hb := unhide hfl (k + 1)
      rw [ha] at hb
      generalize ha1 : upto Ls k = a at *
      generalize Ls[k].length = b at *
      replace ha := hide ha
      have w1 : (0 : Int) ≤ (a : Int) + (b : Int) := by omega
      have w2 : (a : Int) + (b : Int) ≤ 1000000 := by omega
      go_wp2_with fail
      go_roundw
      case rel => exact ⟨k + 1, by omega, by go_num, by rw [unhide ha]; go_num, by simp⟩
      case measure => simp [intOf]; omega
    · obtain rfl : k = n := by omega
      have hgz : Hid (g < w.heap.size) := hg
      go_wp2_with (go_at_call 38; refine (unhide hgrow _).mono ?_; rintro e w1 ⟨A1, c1, rfl, hown, hb1⟩)
      replace hown := hide hown; replace hb1 := hide hb1
      go_loopw [6, 27] (fun s6 s27 wx => ∃ (j : Nat) (A2 : Option Addr) (c2 : Nat), j ≤ k ∧ s27 = .int .i64 j ∧ s6 = .slice A2 (upto Ls j) c2 ∧ Hid (wx.ownsRow w.heap.size 5 1 (.slice A2 (upto Ls j) c2) (upto Ls j) ((cat Ls j).map u8v)) ∧ Hid (Below w.heap.size w wx)) (fun _ i _ => k - (intOf i).toNat)
      case atStart => exact ⟨0, A1, c1, by omega, rfl, rfl, hide (unhide hown), hb1⟩
      case round =>
        obtain ⟨j, A2, c2, hj, rfl, rfl, o2, b2⟩ := hrel
        by_cases hlt2 : j < k
        · have hlt' : j < Ls.length := by rw [← unhide hn']; exact hlt2
          obtain ⟨A, c, hc, hx⟩ := unhide h j hlt'
          have ha : cat Ls (j + 1) = cat Ls j ++ Ls[j] := cat_succ hlt'
          have ha' : upto Ls (j + 1) = upto Ls j + Ls[j].length := upto_succ hlt'
          have hb := unhide hfl (j + 1)
          rw [ha'] at hb
          have hsrc := SrcOk.below hx.src.2 (unhide b2)
          have hc' := ((unhide b2).cell (p := ⟨g, j, none⟩) hg).trans hc
          have hgx : g < wr.heap.size := Nat.lt_of_lt_of_le hg (unhide b2).size
          have hnl : (Ls[j].map u8v).length = Ls[j].length * 1 := by simp
          have hno := u8s_one Ls[j]
          have hsz := (unhide b2).size
          generalize Ls[j] = N at *
          generalize upto Ls j = m at *
          have u1 : m + N.length ≤ maxLen := by simp only [maxLen]; omega
          have u2 : (m + N.length) * 1 ≤ 140737488355328 := by omega
          replace ha := hide ha; replace hsrc := hide hsrc; replace hnl := hide hnl; replace hno := hide hno; replace u1 := hide u1; replace u2 := hide u2; replace hb := hide hb
          replace ha' := hide ha'
          clear hc hx
          go_wp2_with (first
            | (at_builtin
               refine wpList_app _ rfl (.tmp 31) (.tmp 32) 29 rfl w.heap.size 5 i0 _ 1 1 Tryz.underlying29 hi0 hz0 hz1 hz2 rfl (Nat.succ_pos _) _ m ((cat Ls j).map u8v) rfl (unhide o2) A N.length c (N.map u8v) rfl (unhide hnl) (unhide hsrc) (unhide hno) (unhide u1) (unhide u2) hsz ?_
               intro v' w2 hown2 hg2
               obtain ⟨A3, c3, rfl⟩ := ownsRow_form hown2))
          have hal : (cat Ls j).map u8v ++ N.map u8v = (cat Ls (j + 1)).map u8v := by rw [unhide ha, List.map_append]
          rw [hal, ← unhide ha'] at hown2
          go_roundw
          case rel => exact ⟨j + 1, A3, c3, by omega, by go_num, by rw [unhide ha'], hide hown2, hide (bl_grown (unhide b2) hg2 (own_base (unhide o2)))⟩
          case measure => simp [intOf]; omega
        · obtain rfl : j = k := by omega
          go_wp2_with fail
          go_ret
          exact ⟨A2, c2, rfl, unhide o2, unhide b2⟩
end Go.Proofs.YthkccpemgmpadaaGreatDoor.C

namespace Go.Proofs.YthkccpemgmpadaaGreatDoor.C
set_option maxRecDepth 100000
open Go.RowKit
theorem concat2 (lo g : Nat) (A A' : Option Addr) (c c' m : Nat) (a b : List UInt8) (w : World) (hc0 : w.cell? ⟨g, 0, none⟩ = some (.slice A a.length c)) (hc1 : w.cell? ⟨g, 1, none⟩ = some (.slice A' m c')) (hm : b.length = m) (h0 : 0 < m)
    (ha : Bs lo w.heap.size w (.slice A a.length c) a) (hb : Bs lo w.heap.size w (.slice A' m c') b) (hL : a.length + m ≤ 1000000) :
    Calls Tryz.prog 20 #[.slice (some ⟨g, 0, none⟩) 2 2] w fun e w' => ∃ A c, e = .returned (.slice A (a.length + m) c) ∧ w'.ownsRow w.heap.size 5 1 (.slice A (a.length + m) c) (a.length + m) ((a ++ b).map u8v) ∧ Below w.heap.size w w' := by
  subst hm
  have hu : upto [a, b] [a, b].length = a.length + b.length := by simp [upto]
  have hca : cat [a, b] [a, b].length = a ++ b := by simp [cat]
  have h := concat_any lo g [a, b] w (fun k hk => by
    match k, hk with
    | 0, _ => exact ⟨A, c, hc0, ha⟩
    | 1, _ => exact ⟨A', c', hc1, hb⟩) (World.block_lt_of_cell? w _ hc0) (by simp) (by rw [hu]; omega) (by rw [hu]; exact hL)
  rw [hu, hca] at h
  exact h
theorem octs_bs {w : World} {g : Nat} {s : Reg} {t : TypeId} (h : Blk w g t #[.int .u8 (low8 s), .int .u8 (low8 (s >>> 8)), .int .u8 (low8 (s >>> 16)), .int .u8 (low8 (s >>> 24))]) (lo : Nat) (hlo : lo ≤ g) : Bs lo w.heap.size w (.slice (some ⟨g, 0, none⟩) 4 4) (octs s) := by
  refine ⟨_, 4, rfl, by simp [octs], by omega, fun _ => ⟨g, 0, rfl, hlo, h.lt, fun i hi => ?_⟩⟩
  rw [h.cell]
  match i, hi with
  | 0, _ => rfl
  | 1, _ => rfl
  | 2, _ => rfl
  | 3, _ => rfl
set_option maxHeartbeats 1000000 in
theorem seal_any (lo : Nat) (v : Value) (l : List UInt8) (w : World) (h : Bs lo w.heap.size w v l) (hL : l.length ≤ 900000) :
    Calls Tryz.prog 31 #[v] w fun e w' => ∃ A c, e = .returned (.slice A (l.length + 4) c) ∧ w'.ownsRow w.heap.size 5 1 (.slice A (l.length + 4) c) (l.length + 4) ((l ++ octs (sumR l)).map u8v) ∧ Below w.heap.size w w' := by
  have hsum := fun W (hb : Below w.heap.size w W) => sum_any lo w.heap.size v l W (h.below hb (Nat.le_refl _))
  obtain ⟨A, c, rfl, h1, h2, _⟩ := id h
  replace hsum := hide hsum
  replace h := hide h
  go_enter Tryz.func31, Tryz.ntmps31
  go_wp2_with (first
    | (go_at_call 39; refine (unhide hsum _ (by (repeat (first | with_reducible exact Below.refl _ _ | with_reducible assumption | with_reducible refine Below.drew ?_ | with_reducible refine bl_alloc ?_ _ | with_reducible refine bl_call ?_ (by assumption) | (focus (with_reducible refine Below.setCell ?_ ?_ _; rotate_left; focus (first | omega | (simp <;> omega)))) | fail)))).mono ?_; rintro e w' ⟨rfl, rfl⟩)
    | (go_at_call 62; refine (octets_any _ _).mono ?_; rintro e w1 ⟨rfl, hb1⟩; obtain ⟨hc1, hf1⟩ := bcell hb1; have hz1 := hb1.size; (try simp at hz1); unfold octsV)
    | fail)
  have hsz := hb1.size
  have G1 : Blk (w1.alloc (.cells #[.int .u8 (low8 (sumR l)), .int .u8 (low8 (sumR l >>> 8)), .int .u8 (low8 (sumR l >>> 16)), .int .u8 (low8 (sumR l >>> 24))] 93)) w1.heap.size 93 _ := Blk.new rfl
  have G2 := G1.alloc (.cells #[.slice A l.length c, .slice (some ⟨w1.heap.size, 0, none⟩) 4 4] 29)
  have G3 : Blk ((w1.alloc (.cells #[.int .u8 (low8 (sumR l)), .int .u8 (low8 (sumR l >>> 8)), .int .u8 (low8 (sumR l >>> 16)), .int .u8 (low8 (sumR l >>> 24))] 93)).alloc (.cells #[.slice A l.length c, .slice (some ⟨w1.heap.size, 0, none⟩) 4 4] 29)) (w1.heap.size + 1) 29 _ := Blk.new (by simp)
  have hb2 : Below w.heap.size w ((w1.alloc (.cells #[.int .u8 (low8 (sumR l)), .int .u8 (low8 (sumR l >>> 8)), .int .u8 (low8 (sumR l >>> 16)), .int .u8 (low8 (sumR l >>> 24))] 93)).alloc (.cells #[.slice A l.length c, .slice (some ⟨w1.heap.size, 0, none⟩) 4 4] 29)) := bl_alloc (bl_alloc hb1 _) _
  have K := concat2 0 (w1.heap.size + 1) A (some ⟨w1.heap.size, 0, none⟩) c 4 4 l (octs (sumR l)) _ (by rw [G3.cell]; rfl) (by rw [G3.cell]; rfl) rfl (by omega) (((unhide h).below hb2 (Nat.le_refl _)).mono (Nat.zero_le _) hb2.size) (octs_bs G2 0 (Nat.zero_le _)) (by omega)
  refine K.mono ?_
  rintro e w2 ⟨A2, c2, rfl, hown, hb3⟩
  have hb4 := bl_call hb2 hb3
  replace hown := hide (ownsRow_mono hown hb2.size)
  clear G1 G2 G3 K hb2 hb3
  go_wp2
  go_ret
  exact ⟨A2, c2, rfl, unhide hown, hb4⟩
end Go.Proofs.YthkccpemgmpadaaGreatDoor.C

namespace Go.Proofs.YthkccpemgmpadaaGreatDoor.C
set_option maxRecDepth 100000
open Go.RowKit
theorem Bs.own {w : World} {base n : Nat} {e : TypeId} {v : Value} {l : List UInt8} (h : w.ownsRow base e 1 v n (l.map u8v)) : Bs base w.heap.size w v l := by
  have hn : n = l.length := by have := ownsRow_len h; simpa using this.symm
  subst hn
  exact Bs.of_own h
end Go.Proofs.YthkccpemgmpadaaGreatDoor.C

namespace Go.Proofs.YthkccpemgmpadaaGreatDoor.C
set_option maxRecDepth 100000
open Go.RowKit
theorem eqGuard_u32 (op : BinOp) (t : TypeId) (x y : Operand) (a b : Reg) : eqGuard op t x y (u32v a) (u32v b) = pure () := by cases op <;> rfl
def n8 (x : UInt8) : Int := (x.toNat : Int)
theorem n8_bits (x y : UInt8) : bits .xor .u8 (n8 x) (n8 y) = n8 (x ^^^ y) := by
  have h2 : (x ^^^ y).toNat = x.toNat ^^^ y.toNat := by simp
  unfold n8
  rw [h2]
  exact u8_xor_nat x.toNat y.toNat x.toNat_lt y.toNat_lt
theorem Bs.openN {lo hi n : Nat} {w : World} {v : Value} {l : List UInt8} (h : Bs lo hi w v l) (hn : l.length = n) :
    ∃ A c, v = .slice A n c ∧ n ≤ c ∧ c ≤ 9223372036854775807 ∧ ∀ i, i < n → ∃ b off, A = some ⟨b, off, none⟩ ∧ lo ≤ b ∧ b < hi ∧ w.cell? ⟨b, off + i, none⟩ = some (u8v (l.getD i 0)) := by
  subst hn
  obtain ⟨A, c, rfl, h1, h2, h3⟩ := h
  refine ⟨A, c, rfl, h1, h2, fun i hi => ?_⟩
  obtain ⟨b, off, rfl, g1, g2, g3⟩ := h3 (by omega)
  refine ⟨b, off, rfl, g1, g2, ?_⟩
  rw [g3 i hi]
  simp [List.getD_eq_getElem?_getD, hi]
section
attribute [local go_sem] u32v_xor u32v_eql n8_bits eqGuard_u32
end
end Go.Proofs.YthkccpemgmpadaaGreatDoor.C

namespace Go.Proofs.YthkccpemgmpadaaGreatDoor.C
set_option maxRecDepth 100000
open Go.RowKit
theorem eqInt5 (w : World) (d : Nat) (a b : Int) : (Op.equalIn (d + 1) 5 (.int .u8 a) (.int .u8 b)).run Tryz.prog w = .ok (a == b) w := run_equalIn_int w d 5 .u8 .u8 a b Tryz.underlying5
theorem part5_0 (w : World) (a b c d : Value) : (part 5 #[a, b, c, d] 0).run Tryz.prog w = .ok a w := by kernel_rfl
theorem part5_1 (w : World) (a b c d : Value) : (part 5 #[a, b, c, d] 1).run Tryz.prog w = .ok b w := by kernel_rfl
theorem part5_2 (w : World) (a b c d : Value) : (part 5 #[a, b, c, d] 2).run Tryz.prog w = .ok c w := by kernel_rfl
theorem part5_3 (w : World) (a b c d : Value) : (part 5 #[a, b, c, d] 3).run Tryz.prog w = .ok d w := by kernel_rfl
theorem size5 (w : World) : (sizeOf 5).run Tryz.prog w = .ok 1 w := by kernel_rfl
def same4 (a b c d a' b' c' d' : Int) : Bool := a == a' && b == b' && c == c' && d == d'
theorem eq_arr4 (w : World) (a b c d a' b' c' d' : Int) :
    (Op.equalIn 10000 93 (.agg #[.int .u8 a, .int .u8 b, .int .u8 c, .int .u8 d]) (.agg #[.int .u8 a', .int .u8 b', .int .u8 c', .int .u8 d'])).run Tryz.prog w = .ok (same4 a b c d a' b' c' d') w := by
  rw [show (10000 : Nat) = 9998 + 1 + 1 from rfl, Op.equalIn]
  simp only [Sem.run_bind, run_underlying Tryz.underlying93, Result.andThen_ok, size5]
  simp only [Std.Legacy.Range.forIn_eq_forIn_range', Std.Legacy.Range.size, List.range', Nat.sub_zero, Nat.add_one_sub_one, Nat.div_one, List.forIn_cons, List.forIn_nil, Sem.run_bind, Nat.mul_one, part5_0, Result.andThen_ok, Nat.zero_add, Nat.reduceAdd, eqInt5]
  unfold same4
  cases h0 : a == a' <;> cases h1 : b == b' <;> cases h2 : c == c' <;> cases h3 : d == d' <;> simp [part5_1, part5_2, part5_3, eqInt5, h1, h2, h3, Result.andThen]
theorem guard36 : Tryz.prog.eqGuardType Tryz.prog.depth 93 = false := by kernel_rfl
theorem arr36 (w : World) (a : Option Addr) (c : Nat) : (Instr.arrayAt 93 (.slice a 4 c)).run Tryz.prog w = .ok (.pointer a) w := run_arrayAt (P := Tryz.prog) w 93 5 4 a 4 c Tryz.underlying93 (Nat.le_refl _)
def okO (l : List UInt8) (m : Nat) : Bool :=
  same4 (n8 (l.getD m 0)) (n8 (l.getD (m + 1) 0)) (n8 (l.getD (m + 2) 0)) (n8 (l.getD (m + 3) 0)) (low8 (sumR (l.take m))) (low8 (sumR (l.take m) >>> 8)) (low8 (sumR (l.take m) >>> 16)) (low8 (sumR (l.take m) >>> 24))
theorem n8_inj {x y : UInt8} : n8 x = n8 y ↔ x = y := by
  unfold n8
  constructor
  · intro h; exact UInt8.toNat_inj.1 (by omega)
  · intro h; rw [h]
theorem okO_iff {l : List UInt8} {m : Nat} (h : l.length = m + 4) : okO l m = true ↔ l.drop m = octs (sumR (l.take m)) := by
  have h1 : l.drop m = [l.getD m 0, l.getD (m + 1) 0, l.getD (m + 2) 0, l.getD (m + 3) 0] := by
    apply List.ext_getElem
    · simp; omega
    · intro i hi hj
      have hi' : i < 4 := by simpa using hj
      match i, hi' with
      | 0, _ => simp [List.getD_eq_getElem?_getD, show m < l.length by omega]
      | 1, _ => simp [List.getD_eq_getElem?_getD, show m + 1 < l.length by omega]
      | 2, _ => simp [List.getD_eq_getElem?_getD, show m + 2 < l.length by omega]
      | 3, _ => simp [List.getD_eq_getElem?_getD, show m + 3 < l.length by omega]
  rw [h1]
  unfold okO same4 octs
  generalize sumR (l.take m) = s at *
  simp only [Bool.and_eq_true, beq_iff_eq, List.cons.injEq, and_true]
  have e : ∀ (x : UInt8) (r : Reg), n8 x = low8 r ↔ x = ⟨r.setWidth 8⟩ := fun x r => n8_inj (x := x) (y := ⟨r.setWidth 8⟩)
  rw [e, e, e, e, and_assoc, and_assoc]
end Go.Proofs.YthkccpemgmpadaaGreatDoor.C
