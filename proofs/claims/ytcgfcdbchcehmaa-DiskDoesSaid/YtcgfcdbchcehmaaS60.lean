import Derived.Test.YtcgfcdbchcehmaaS59
import Derived.Test.YtcgfcdbchcehmaaW11
import Derived.Test.YtcgfcdbchcehmaaW13
namespace Go.Proofs.Ytcgfcdbchcehmaa
open Go.RowKit

theorem few_parts0 {d : Dk} (h : fewB d = true) : d.dry.length ≤ 1000000 ∧ d.wet.length ≤ 1000 ∧ ∀ (j : Nat) (q : Pg), d.wet[j]? = some q → q.b.length ≤ 1000000 := by
  simp only [fewB, Bool.and_eq_true, Bool.or_eq_true, decide_eq_true_eq, shortB, List.all_eq_true] at h
  refine ⟨by omega, by omega, fun j q hj => ?_⟩
  have := h.1.1 q (List.mem_of_getElem? hj)
  omega
theorem Dsk.grow {lo : Nat} {w w' : World} {v : Value} {d : Dk} (h : Dsk lo w.heap.size w v d) (hb : Below w.heap.size w w') : Dsk lo w'.heap.size w' v d := (h.below hb (Nat.le_refl _)).mono (Nat.le_refl _) hb.size
theorem Bs.grow {lo : Nat} {w w' : World} {v : Value} {l : List UInt8} (h : Bs lo w.heap.size w v l) (hb : Below w.heap.size w w') : Bs lo w'.heap.size w' v l := (h.below hb (Nat.le_refl _)).mono (Nat.le_refl _) hb.size

/-- What a disk's value looks like. -/
def dv (A : Option Addr) (c : Nat) (B : Option Addr) (e : Nat) (X : Dk) : Value := .agg #[.slice A X.dry.length c, .slice B X.wet.length e, .int .i64 X.left]

theorem form_fix {f : FuncId} {args : Array Value} {W : World} {X : Dk} {EX : Int} (h : Calls Try.prog f args W fun e w' => ∃ v' E, e = .returned (.tuple #[v', .int .i64 E]) ∧ Dsk W.heap.size w'.heap.size w' v' X ∧ E = EX ∧ Below W.heap.size W w') :
    Calls Try.prog f args W fun e w' => ∃ A c B k, e = .returned (.tuple #[.agg #[.slice A X.dry.length c, .slice B X.wet.length k, .int .i64 X.left], .int .i64 EX]) ∧ Dsk W.heap.size w'.heap.size w' (.agg #[.slice A X.dry.length c, .slice B X.wet.length k, .int .i64 X.left]) X ∧ Below W.heap.size W w' :=
  h.mono fun e w' ⟨v', E, he, hd, hE, hb⟩ => by
    obtain ⟨A, c, B, k, rfl⟩ := hd.form
    subst hE
    exact ⟨A, c, B, k, he, hd, hb⟩
theorem form_bs {f : FuncId} {args : Array Value} {W : World} {X : List UInt8} {EX : Int} (h : Calls Try.prog f args W fun e w' => ∃ v' E, e = .returned (.tuple #[v', .int .i64 E]) ∧ Bs W.heap.size w'.heap.size w' v' X ∧ E = EX ∧ Below W.heap.size W w') :
    Calls Try.prog f args W fun e w' => ∃ A c, e = .returned (.tuple #[.slice A X.length c, .int .i64 EX]) ∧ Bs W.heap.size w'.heap.size w' (.slice A X.length c) X ∧ Below W.heap.size W w' :=
  h.mono fun e w' ⟨v', E, he, hd, hE, hb⟩ => by
    obtain ⟨A, c, rfl, _⟩ := id hd
    subst hE
    exact ⟨A, c, he, hd, hb⟩
theorem form_copy {args : Array Value} {W : World} {X : Dk} (h : Calls Try.prog 11 args W fun e w' => ∃ v', e = .returned v' ∧ CopyOut W.heap.size w' v' X ∧ Below W.heap.size W w') :
    Calls Try.prog 11 args W fun e w' => ∃ A c B k, e = .returned (.agg #[.slice A X.dry.length c, .slice B X.wet.length k, .int .i64 X.left]) ∧ Dsk W.heap.size w'.heap.size w' (.agg #[.slice A X.dry.length c, .slice B X.wet.length k, .int .i64 X.left]) X ∧ Below W.heap.size W w' :=
  h.mono fun e w' ⟨v', he, hd, hb⟩ => by
    have h2 := hd.toDsk
    obtain ⟨A, c, B, k, rfl⟩ := h2.form
    exact ⟨A, c, B, k, he, h2, hb⟩

/-- Blocks that are known whole, disks and bytes with their bounds, and what may be written. -/
structure Fx (w : World) (L : List (Nat × TypeId × Array Value)) (Y : List (Nat × Nat × Value × Dk)) (Z : List (Nat × Nat × Value × List UInt8)) (U V : List (Nat × Nat × Option Addr × Nat)) : Prop where
  blk : ∀ p ∈ L, Blk w p.1 p.2.1 p.2.2
  dsk : ∀ p ∈ Y, p.2.1 ≤ w.heap.size ∧ Dsk p.1 p.2.1 w p.2.2.1 p.2.2.2
  bs : ∀ p ∈ Z, p.2.1 ≤ w.heap.size ∧ Bs p.1 p.2.1 w p.2.2.1 p.2.2.2
  u8 : ∀ p ∈ U, p.2.1 ≤ w.heap.size ∧ U8x w p.1 p.2.1 p.2.2.1 p.2.2.2
  w8 : ∀ p ∈ V, p.2.1 ≤ w.heap.size ∧ W8x w p.1 p.2.1 p.2.2.1 p.2.2.2
section
variable {w w' : World} {L : List (Nat × TypeId × Array Value)} {Y : List (Nat × Nat × Value × Dk)} {Z : List (Nat × Nat × Value × List UInt8)} {U V : List (Nat × Nat × Option Addr × Nat)}
theorem Fx.below (h : Fx w L Y Z U V) (hb : Below w.heap.size w w') : Fx w' L Y Z U V :=
  ⟨fun p hp => (h.blk p hp).below hb (h.blk p hp).lt, fun p hp => ⟨Nat.le_trans (h.dsk p hp).1 hb.size, (h.dsk p hp).2.below hb (h.dsk p hp).1⟩, fun p hp => ⟨Nat.le_trans (h.bs p hp).1 hb.size, (h.bs p hp).2.below hb (h.bs p hp).1⟩,
   fun p hp => ⟨Nat.le_trans (h.u8 p hp).1 hb.size, (h.u8 p hp).2.keep (Agree.of_below hb (h.u8 p hp).1)⟩, fun p hp => ⟨Nat.le_trans (h.w8 p hp).1 hb.size, (h.w8 p hp).2.keep (Agree.of_below hb (h.w8 p hp).1)⟩⟩
theorem Fx.alloc (h : Fx w L Y Z U V) (o : Obj) : Fx (w.alloc o) L Y Z U V := h.below ((Below.refl _ _).alloc (Nat.le_refl _) o)
theorem Fx.drew (h : Fx w L Y Z U V) : Fx w.drew L Y Z U V := h.below (Below.drew (Below.refl _ _))
theorem Fx.addB (h : Fx w L Y Z U V) {g : Nat} {t : TypeId} {cs : Array Value} (hk : Blk w g t cs) : Fx w (L ++ [(g, t, cs)]) Y Z U V :=
  ⟨fun p hp => (List.mem_append.1 hp).elim (fun hp => h.blk p hp) (fun hp => by rw [List.mem_singleton.1 hp]; exact hk), h.dsk, h.bs, h.u8, h.w8⟩
theorem Fx.addD (h : Fx w L Y Z U V) {lo hi : Nat} {v : Value} {x : Dk} (h1 : hi ≤ w.heap.size) (hk : Dsk lo hi w v x) : Fx w L (Y ++ [(lo, hi, v, x)]) Z U V :=
  ⟨h.blk, fun p hp => (List.mem_append.1 hp).elim (fun hp => h.dsk p hp) (fun hp => by rw [List.mem_singleton.1 hp]; exact ⟨h1, hk⟩), h.bs, h.u8, h.w8⟩
theorem Fx.addS (h : Fx w L Y Z U V) {lo hi : Nat} {v : Value} {x : List UInt8} (h1 : hi ≤ w.heap.size) (hk : Bs lo hi w v x) : Fx w L Y (Z ++ [(lo, hi, v, x)]) U V :=
  ⟨h.blk, h.dsk, fun p hp => (List.mem_append.1 hp).elim (fun hp => h.bs p hp) (fun hp => by rw [List.mem_singleton.1 hp]; exact ⟨h1, hk⟩), h.u8, h.w8⟩
theorem Fx.addU (h : Fx w L Y Z U V) {lo hi n : Nat} {A : Option Addr} (h1 : hi ≤ w.heap.size) (hk : U8x w lo hi A n) : Fx w L Y Z (U ++ [(lo, hi, A, n)]) V :=
  ⟨h.blk, h.dsk, h.bs, fun p hp => (List.mem_append.1 hp).elim (fun hp => h.u8 p hp) (fun hp => by rw [List.mem_singleton.1 hp]; exact ⟨h1, hk⟩), h.w8⟩
theorem Fx.addV (h : Fx w L Y Z U V) {lo hi n : Nat} {A : Option Addr} (h1 : hi ≤ w.heap.size) (hk : W8x w lo hi A n) : Fx w L Y Z U (V ++ [(lo, hi, A, n)]) :=
  ⟨h.blk, h.dsk, h.bs, h.u8, fun p hp => (List.mem_append.1 hp).elim (fun hp => h.w8 p hp) (fun hp => by rw [List.mem_singleton.1 hp]; exact ⟨h1, hk⟩)⟩
theorem Fx.get (h : Fx w L Y Z U V) (i : Nat) {g : Nat} {t : TypeId} {cs : Array Value} (e : L[i]? = some (g, t, cs)) : Blk w g t cs := h.blk _ (List.mem_of_getElem? e)
theorem Fx.dr (h : Fx w L Y Z U V) (i : Nat) {lo hi : Nat} {v : Value} {x : Dk} (e : Y[i]? = some (lo, hi, v, x)) : Dsk lo w.heap.size w v x := (h.dsk _ (List.mem_of_getElem? e)).2.mono (Nat.le_refl _) (h.dsk _ (List.mem_of_getElem? e)).1
theorem Fx.br (h : Fx w L Y Z U V) (i : Nat) {lo hi : Nat} {v : Value} {x : List UInt8} (e : Z[i]? = some (lo, hi, v, x)) : Bs lo w.heap.size w v x := (h.bs _ (List.mem_of_getElem? e)).2.mono (Nat.le_refl _) (h.bs _ (List.mem_of_getElem? e)).1
theorem Fx.ur (h : Fx w L Y Z U V) (i : Nat) {lo hi n : Nat} {A : Option Addr} (e : U[i]? = some (lo, hi, A, n)) : U8x w lo hi A n := (h.u8 _ (List.mem_of_getElem? e)).2
theorem Fx.vr (h : Fx w L Y Z U V) (i : Nat) {lo hi n : Nat} {A : Option Addr} (e : V[i]? = some (lo, hi, A, n)) : W8x w lo hi A n := (h.w8 _ (List.mem_of_getElem? e)).2
/-- Only some of it. -/
theorem Fx.sub (h : Fx w L Y Z U V) {L' : List (Nat × TypeId × Array Value)} {Y' : List (Nat × Nat × Value × Dk)} {U' V' : List (Nat × Nat × Option Addr × Nat)} (h1 : ∀ p ∈ L', p ∈ L) (h2 : ∀ p ∈ Y', p ∈ Y) (h3 : ∀ p ∈ U', p ∈ U) (h4 : ∀ p ∈ V', p ∈ V) : Fx w L' Y' [] U' V' :=
  ⟨fun p hp => h.blk p (h1 p hp), fun p hp => h.dsk p (h2 p hp), fun _ hp => (nomatch hp), fun p hp => h.u8 p (h3 p hp), fun p hp => h.w8 p (h4 p hp)⟩
/-- An octet is written in a block above the disks, and below what else may be written: what lies elsewhere stays. -/
theorem Fx.put (h : Fx w L Y [] U V) {g k : Nat} {u : Value} {cur : Array Value} (hk : Blk w g 5 cur) (hL : ∀ p ∈ L, p.2.1 ≠ 5) (hY : ∀ p ∈ Y, p.2.1 ≤ g) (hU : ∀ p ∈ U, g < p.1) (hV : ∀ p ∈ V, g < p.1) : Fx (w.setCell ⟨g, k, none⟩ u) L Y [] U V :=
  ⟨fun p hp => (h.blk p hp).far (p := ⟨g, k, none⟩) (Blk.ne_ (h.blk p hp) hk (hL p hp)) u,
    fun p hp => ⟨Nat.le_trans (h.dsk p hp).1 (by simp), (h.dsk p hp).2.below (Below.setCell (p := ⟨g, k, none⟩) (Below.refl _ _) (hY p hp) u) (Nat.le_refl _)⟩, fun p hp => (nomatch hp),
    fun p hp => ⟨Nat.le_trans (h.u8 p hp).1 (by simp), (h.u8 p hp).2.keep ((Agree.refl _ _ _).setCell (p := ⟨g, k, none⟩) (hU p hp) u)⟩,
    fun p hp => ⟨Nat.le_trans (h.w8 p hp).1 (by simp), (h.w8 p hp).2.keep ((Agree.refl _ _ _).setCell (p := ⟨g, k, none⟩) (hV p hp) u)⟩⟩
theorem Fx.nil (w : World) : Fx w [] [] [] [] [] := ⟨fun _ hp => (nomatch hp), fun _ hp => (nomatch hp), fun _ hp => (nomatch hp), fun _ hp => (nomatch hp), fun _ hp => (nomatch hp)⟩
end
end Go.Proofs.Ytcgfcdbchcehmaa
