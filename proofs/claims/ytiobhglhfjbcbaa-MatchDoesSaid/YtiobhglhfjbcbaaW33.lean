import Derived.Test.YtiobhglhfjbcbaaW27
namespace Go.Proofs.Ytiobhglhfjbcbaa
open Go.RowKit

theorem take_get {l : List UInt8} {n i : Nat} (h : i < n) : (l.take n).getD i 0 = l.getD i 0 := by
  rw [List.getD_eq_getElem?_getD, List.getD_eq_getElem?_getD, List.getElem?_take, if_pos h]
/-- What is told again is there just if so many are alike. -/
theorem told_iff {l : List UInt8} {a d n : Nat} (hd : 1 ≤ d) (hda : d ≤ a) (hn : a + n ≤ l.length) (h18 : n ≤ 18) : tellN (l.take a) d n = l.take (a + n) ↔ n ≤ alkF l (a - d) a 18 := by
  have hla : (l.take a).length = a := by rw [List.length_take]; omega
  constructor
  · intro h
    refine alkF_ge l (a - d) a 18 n h18 hn fun i hi => ?_
    have := tellN_get (b := l.take a) (d := d) (k := n) (i := a + i) (by omega) (by omega) hd (by omega)
    rw [h, take_get (by omega), take_get (by omega)] at this
    rw [this, show a + i - d = a - d + i by omega]
  · intro h
    exact tellN_again hd hda n hn fun i hi => alkF_same l (a - d) a 18 i (by omega)
/-- An append as one step of a region that draws its order. -/
theorem step_app {P : Program} {ops : Array Oper} {o : Oper} {a : Act} {w : World} {K : Act → World → Prop} {Q : Exit → Act → World → Prop} {E : Prop} (hgd : o.guard = none) (s x : Operand) (t : TypeId)
    (ho : o.op = .call { callee := .builtin .append, args := #[s, x], argTypes := #[t, t] })
    (base : Nat) (e : TypeId) (i : TypeInfo) (z : Value) (size bytes : Nat) (ht : P.underlying t = some (.slice e)) (hi : P.info? e = some i) (hz : i.zero = some z)
    (hsize : i.size = size) (hby : i.bytes = bytes) (hzs : z.cells.size = size) (hsz : 0 < size)
    (v : Value) (n : Nat) (xs : List Value) (hs : a.eval s = v) (hown : w.ownsRow base e size v n xs)
    (A : Option Addr) (m c : Nat) (news : List Value) (hx : a.eval x = .slice A m c) (hl : news.length = m * size) (hr : SrcOk w A m news) (h1 : ∀ u ∈ news, u.oneCell' = true)
    (h63 : n + m ≤ maxLen) (hbytes : (n + m) * bytes ≤ 140737488355328) (hbase : base ≤ w.heap.size)
    (h : ∀ v' w', w'.ownsRow base e size v' (n + m) (xs ++ news) → w.grownBy w' v.ownBlock → K (a.put o.dst v') w') :
    if Region.wanted o (yielded ops a.tmps) = true then Oper.wp P o a w K Q else E := by
  have hw : Region.wanted o (yielded ops a.tmps) = true := by simp [Region.wanted, hgd]
  rw [if_pos hw]
  exact wp_app w s x t ho base e i z size bytes ht hi hz hsize hby hzs hsz v n xs hs hown A m c news hx hl hr h1 h63 hbytes hbase h

/-- The way of the two loops. -/
structure Best (l : List UInt8) (a : Nat) (M T : Int) : Prop where
  m0 : 2 ≤ M
  m1 : M ≤ 18
  t0 : 0 ≤ T
  none : T = 0 → M = 2
  some : T ≠ 0 → 3 ≤ M ∧ T ≤ a ∧ T ≤ 256 ∧ a + M ≤ l.length
  most : ∀ d : Nat, 1 ≤ d → d ≤ a → d ≤ 256 → (alkF l (a - d) a 18 : Int) ≤ M ∧ (T ≠ 0 → (d : Int) < T → (alkF l (a - d) a 18 : Int) < M)
  at_ : T ≠ 0 → (alkF l (a - T.toNat) a 18 : Int) = M
theorem best_is (l : List UInt8) (a : Nat) (ha : a ≤ l.length) : Best l a (bestF l a (min a 256)).1 (bestF l a (min a 256)).2 := by
  obtain ⟨h2, h18, hle, hz, h5⟩ := bestF_two l a (min a 256)
  refine ⟨by omega, by omega, by omega, fun h => by have := hz (by omega); omega, fun h => ?_, fun d h1 h2 h3 => ?_, fun h => ?_⟩
  · obtain ⟨g1, g2⟩ := h5 (by omega)
    have := alkF_end l (a - (bestF l a (min a 256)).2) a 18 ha
    omega
  · obtain ⟨g1, g2⟩ := bestF_most l a (min a 256) d h1 (by omega)
    refine ⟨by omega, fun ht hlt => ?_⟩
    obtain ⟨g3, _⟩ := h5 (by omega)
    have : ¬ alkF l (a - d) a 18 = (bestF l a (min a 256)).1 := fun e => by
      have := g2 (by omega) e; omega
    omega
  · rw [Int.toNat_natCast, (h5 (by omega)).2]
end Go.Proofs.Ytiobhglhfjbcbaa
