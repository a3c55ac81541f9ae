import Derived.Test.YtnjepbehfioclaaBase
import Derived.Test.YtnjepbehfioclaaA4
import Derived.Lib.AppendStr
namespace Go.Proofs.Ytnjepbehfioclaa
open Go.RowKit

/-! ### octets -/
def n8 (c : UInt8) : Int := (c.toNat : Int)
theorem n8_def (c : UInt8) : n8 c = (c.toNat : Int) := rfl
theorem n8_lo (c : UInt8) : 0 ≤ n8 c := by unfold n8; omega
theorem n8_hi (c : UInt8) : n8 c < 256 := by have := c.toNat_lt; unfold n8; omega
theorem n8_of (v : Nat) : ((v : Int) % (256 : Int)) = n8 (UInt8.ofNat v) := by unfold n8; rw [ofNat_toNat']; omega
abbrev u8v (c : UInt8) : Value := .int .u8 (n8 c)
def bc (c : UInt8) : List Value := [u8v c]
theorem bc_len : ∀ c, (bc c).length = 1 := fun _ => rfl
theorem bc_one : ∀ c, ∀ u ∈ bc c, u.oneCell' = true := by intro c u h; simp [bc] at h; subst h; rfl
/-- A slice that reads as octets. -/
abbrev Bs (lo hi : Nat) (w : World) (v : Value) (l : List UInt8) : Prop := Rd 1 bc lo hi w v l
/-- .. a row of the call's own. -/
def OwnB (w : World) (base : Nat) (v : Value) (l : List UInt8) : Prop := w.ownsRow base 5 1 v l.length (l.flatMap bc)
theorem OwnB.bs {w : World} {base : Nat} {v : Value} {l : List UInt8} (h : OwnB w base v l) : Bs base w.heap.size w v l := Rd.of_own bc_len (by decide) h
theorem OwnB.nil (w : World) (base : Nat) : OwnB w base (.slice none 0 0) [] := World.ownsRow_nil _ _ _ _
theorem str_cells (l : List UInt8) : Lib.strCells (bz l) = l.flatMap bc := by
  unfold Lib.strCells
  rw [bz_list]
  induction l with
  | nil => rfl
  | cons c l ih => rw [List.map_cons, List.flatMap_cons, ih]; rfl
theorem info_p {t size bytes : Nat} {z : Value} (h : (Try.prog.info? t).map (fun i => (i.zero, i.size, i.bytes)) = some (some z, size, bytes)) : ∃ i, Try.prog.info? t = some i ∧ i.zero = some z ∧ i.size = size ∧ i.bytes = bytes := by
  cases hi : Try.prog.info? t with
  | none => rw [hi] at h; cases h
  | some i =>
    rw [hi] at h
    simp at h
    exact ⟨i, rfl, h.1, h.2.1, h.2.2⟩
theorem info5 : (Try.prog.info? 5).map (fun i => (i.zero, i.size, i.bytes)) = some (some (.int .u8 0), 1, 1) := by kernel_rfl
theorem Rd.openB {lo hi : Nat} {w : World} {v : Value} {l : List UInt8} (h : Bs lo hi w v l) : ∃ A c, v = .slice A l.length c ∧ l.length ≤ c ∧ c ≤ 9223372036854775807 ∧
    ∀ i (hi' : i < l.length), ∃ b off, A = some ⟨b, off, none⟩ ∧ lo ≤ b ∧ b < hi ∧ w.cell? ⟨b, off + i, none⟩ = some (u8v l[i]) := by
  obtain ⟨A, c, e, h1, h2, h3⟩ := h.open1
  exact ⟨A, c, e, h1, h2, fun i hi => by obtain ⟨b, off, e, g1, g2, g3⟩ := h3 i hi; exact ⟨b, off, e, g1, g2, g3 _ rfl⟩⟩
/-- A box of one octet, as an append's source. -/
theorem one_src (w : World) (x : UInt8) : SrcOk (w.alloc (.cells #[u8v x] 5)) (some ⟨w.heap.size, 0, none⟩) 1 (bc x) := fun _ => by
  refine ⟨_, rfl, fun j u hu => ?_⟩
  have hb : Blk (w.alloc (.cells #[u8v x] 5)) w.heap.size 5 #[u8v x] := Blk.new rfl
  have hj : j = 0 := by have := (List.getElem?_eq_some_iff.1 hu).1; simp [bc] at this; exact this
  subst hj
  have hu' : u = u8v x := by simpa [bc] using hu.symm
  subst hu'
  unfold Addr.add
  simp
theorem flat_snoc {α : Type} (f : α → List Value) (l : List α) (x : α) : l.flatMap f ++ f x = (l ++ [x]).flatMap f := by simp
theorem flat_app {α : Type} (f : α → List Value) (l m : List α) : l.flatMap f ++ m.flatMap f = (l ++ m).flatMap f := by simp

/-! ### worlds -/
theorem bb_alloc {B : Nat} {a w : World} (h : Below B a w) (hB : B ≤ a.heap.size) (o : Obj) : Below B a (w.alloc o) := h.alloc (Nat.le_trans hB h.size) o
theorem bb_call {B : Nat} {a w w' : World} (h : Below B a w) (h' : Below w.heap.size w w') (hB : B ≤ a.heap.size) : Below B a w' := h.trans (h'.mono (Nat.le_trans hB h.size))
theorem Blk.grown {w w' : World} {g : Nat} {t : TypeId} {cs : Array Value} {row : Option Nat} (h : Blk w g t cs) (hg : w.grownBy w' row) (hne : some g ≠ row) : Blk w' g t cs := (hg.block g h.lt hne).trans h
theorem own_not {w : World} {base n size g : Nat} {e t : TypeId} {v : Value} {xs : List Value} {cs : Array Value} (h : w.ownsRow base e size v n xs) (hb : Blk w g t cs) (hne : e ≠ t) : some g ≠ v.ownBlock := by
  rcases h.2 with ⟨rfl, _⟩ | ⟨g', cap, cur, rfl, _, hh, _⟩
  · simp [Value.ownBlock]
  · intro e1
    simp [Value.ownBlock] at e1
    subst e1
    exact Blk.ne_ (t := e) (cs := cur) hh hb hne rfl
/-- Blocks of no other type than 'e' have turned. -/
def Kept (e : TypeId) (w w' : World) : Prop := ∀ g t cs, e ≠ t → Blk w g t cs → Blk w' g t cs
theorem Kept.refl (e : TypeId) (w : World) : Kept e w w := fun _ _ _ _ h => h
theorem Kept.trans {e : TypeId} {a b c : World} (h : Kept e a b) (k : Kept e b c) : Kept e a c := fun g t cs ht hb => k g t cs ht (h g t cs ht hb)
theorem Kept.alloc {e : TypeId} {a b : World} (h : Kept e a b) (o : Obj) : Kept e a (b.alloc o) := fun g t cs ht hb => (h g t cs ht hb).alloc o
theorem Kept.drew {e : TypeId} {a b : World} (h : Kept e a b) : Kept e a b.drew := fun g t cs ht hb => (h g t cs ht hb).drew
theorem Kept.below {e : TypeId} {a b c : World} (h : Kept e a b) (hb : Below b.heap.size b c) : Kept e a c := fun g t cs ht hB => (h g t cs ht hB).below hb (h g t cs ht hB).lt
theorem Kept.grown {e : TypeId} {a b c : World} {base size n : Nat} {v : Value} {xs : List Value} (h : Kept e a b) (ho : b.ownsRow base e size v n xs) (hg : b.grownBy c v.ownBlock) : Kept e a c := fun g t cs ht hB =>
  (h g t cs ht hB).grown hg (own_not ho (h g t cs ht hB) ht)
theorem Kept.own {e t : TypeId} {a b : World} {base size n : Nat} {v : Value} {xs : List Value} (h : Kept e a b) (ho : a.ownsRow base t size v n xs) (hne : e ≠ t) : b.ownsRow base t size v n xs := by
  refine ⟨ho.1, ?_⟩
  rcases ho.2 with hn | ⟨g, cap, cur, h1, h2, h3, h4⟩
  · exact .inl hn
  · exact .inr ⟨g, cap, cur, h1, h2, h g t cur hne h3, h4⟩
/-- A row of the call's own that grows. -/
theorem below_app {base : Nat} {a w w' : World} {o : Obj} {e : TypeId} {k : Nat} {v : Value} {n : Nat} {xs : List Value} (h : Below base a w) (hb : base ≤ a.heap.size) (hown : w.ownsRow base e k v n xs) (hg : (w.alloc o).grownBy w' v.ownBlock) : Below base a w' :=
  (bb_alloc h hb o).grown hg (Nat.le_trans hb (bb_alloc h hb o).size) (own_base hown)
/-- Only these blocks have turned, and there may be new ones. -/
structure But (S : List Nat) (w w' : World) : Prop where
  os : w'.os = w.os
  tape : w'.tape = w.tape
  output : w'.output = w.output
  size : w.heap.size ≤ w'.heap.size
  block : ∀ k, k < w.heap.size → k ∉ S → w'.heap[k]? = w.heap[k]?
theorem But.refl (S : List Nat) (w : World) : But S w w := ⟨rfl, rfl, rfl, Nat.le_refl _, fun _ _ _ => rfl⟩
theorem But.trans {S : List Nat} {a b c : World} (h : But S a b) (k : But S b c) : But S a c :=
  ⟨k.os.trans h.os, k.tape.trans h.tape, k.output.trans h.output, Nat.le_trans h.size k.size, fun i hi hS => (k.block i (Nat.lt_of_lt_of_le hi h.size) hS).trans (h.block i hi hS)⟩
theorem But.below {S : List Nat} {B : Nat} {a b : World} (h : But S a b) (hs : ∀ k ∈ S, B ≤ k) (hB : B ≤ a.heap.size) : Below B a b := ⟨h.os, h.tape, h.output, h.size, fun k hk => h.block k (by omega) fun hS => by have := hs k hS; omega⟩
theorem But.of_below {S : List Nat} {a b c : World} (h : But S a b) (hb : Below b.heap.size b c) : But S a c :=
  ⟨hb.os.trans h.os, hb.tape.trans h.tape, hb.output.trans h.output, Nat.le_trans h.size hb.size, fun k hk hS => (hb.block k (by have := h.size; omega)).trans (h.block k hk hS)⟩
theorem But.drew {S : List Nat} {a b : World} (h : But S a b) : But S a b.drew := ⟨h.os, h.tape, h.output, h.size, h.block⟩
theorem But.drewN {S : List Nat} {a b : World} (h : But S a b) (n : Nat) : But S a (b.drewN n) := ⟨h.os, h.tape, h.output, h.size, h.block⟩
theorem But.set {S : List Nat} {a b : World} (h : But S a b) {p : Addr} (hp : p.block ∈ S) (u : Value) : But S a (b.setCell p u) := by
  have hb : Below p.block b (b.setCell p u) := Below.setCell (Below.refl _ _) (Nat.le_refl _) u
  exact ⟨hb.os.trans h.os, hb.tape.trans h.tape, hb.output.trans h.output, Nat.le_trans h.size hb.size, fun k hk hS => (Below.heap_setCell b p u k (fun e => hS (e ▸ hp))).trans (h.block k hk hS)⟩
/-- A cell of a block that is new. -/
theorem But.far {S : List Nat} {a b : World} (h : But S a b) {p : Addr} (hp : a.heap.size ≤ p.block) (u : Value) : But S a (b.setCell p u) := by
  have hb : Below p.block b (b.setCell p u) := Below.setCell (Below.refl _ _) (Nat.le_refl _) u
  exact ⟨hb.os.trans h.os, hb.tape.trans h.tape, hb.output.trans h.output, Nat.le_trans h.size hb.size, fun k hk hS => (Below.heap_setCell b p u k (by omega)).trans (h.block k hk hS)⟩
theorem But.alloc {S : List Nat} {a b : World} (h : But S a b) (o : Obj) : But S a (b.alloc o) := h.of_below ((Below.refl _ _).alloc (Nat.le_refl _) o)
theorem Blk.but {w w' : World} {g : Nat} {t : TypeId} {cs : Array Value} {S : List Nat} (h : Blk w g t cs) (hb : But S w w') (hS : g ∉ S) : Blk w' g t cs := (hb.block g h.lt hS).trans h
end Go.Proofs.Ytnjepbehfioclaa
