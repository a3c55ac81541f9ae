import Derived.Test.YtnjepbehfioclaaQ1
import Derived.Test.YtnjepbehfioclaaRows
import Derived.ProofKit
import Derived.OpenShut
import Derived.ChangeOld
import Derived.ChangeSame
import Derived.ChangeMaps5
import Derived.Below
import Derived.Deep.Slices
import Derived.Deep.Fields
import Derived.Lib.SmallJoins
namespace Go.Proofs.Ytnjepbehfioclaa
open Go.RowKit Go.ChangeShapes Go.WideShapes Go.ChangeAt Go.Deep Go.Joins

theorem list_of {α : Type} {Q : Nat → α → Prop} (n : Nat) (h : ∀ i, i < n → ∃ x, Q i x) : ∃ l : List α, l.length = n ∧ ∀ i (hi : i < l.length), Q i l[i] := by
  induction n with
  | zero => exact ⟨[], rfl, fun i hi => absurd hi (Nat.not_lt_zero _)⟩
  | succ n ih =>
    obtain ⟨l, hl, hq⟩ := ih fun i hi => h i (by omega)
    obtain ⟨x, hx⟩ := h n (by omega)
    refine ⟨l ++ [x], by simp [hl], fun i hi => ?_⟩
    by_cases h1 : i < l.length
    · rw [List.getElem_append_left h1]; exact hq i h1
    · obtain rfl : i = n := by simp at hi; omega
      rw [List.getElem_append_right (by omega)]
      simpa [hl] using hx
theorem add_none (b off i : Nat) : (⟨b, off, none⟩ : Addr).add i = ⟨b, off + i, none⟩ := by
  unfold Addr.add
  split
  · rename_i h; subst h; rfl
  · rfl
theorem spot_none {w : World} {a : Addr} {u : Value} (h : w.cell? (a.add 0) = some u) : a.spot = none := by
  have h1 := World.cell?_spot h
  unfold Addr.add at h1
  simpa using h1
theorem f64_of {b : Nat} (h : (Lit.float .f64 b).wf = true) : b < 18446744073709551616 := by simpa [Lit.wf] using h

section
variable {H : Type} {enc : TypeId × Value → H} {P : Program} {w : World} {base : Nat} {spare : Nat → Bool} {held : Bool}
/-- A parameter that is a slice, whatever its elements are, of each of which 'T' is known. -/
theorem open_rd {α : Type} {k : Nat} {f : α → List Value} (T : α → Prop) {r : Reach} {b0 : Nat} {v : Value} {d : DataW H} {p : List MemPlace} {t e : TypeId} (ht : P.underlying t = some (.slice e)) (hC : P.cellsOf e = k) (hk : 0 < k) (hfl : ∀ x, (f x).length = k)
    (hE : ∀ n cs y, cs.length = k → DataW.trod enc P w base spare held n e cs = some y → ∃ x, cs = f x ∧ T x)
    (hv : Value.okWide P w r b0 t v) (h : DataW.Trod enc P w base spare held t v d p) : ∃ l, Rd k f 0 w.heap.size w v l ∧ ∀ x ∈ l, T x := by
  obtain ⟨a1, n1, c1, rfl⟩ := okWide_slice ht hv
  obtain ⟨fuel, hf⟩ := h
  rcases open_slice ht hf with ⟨hcs, _⟩ | ⟨a, len, cap, m, n, D, Pl, hcs, hb, hl, hm, hmm, hx, hi⟩
  · have e : Value.slice a1 n1 c1 = .slice none 0 0 := by simpa [Value.cells] using hcs
    rw [e]
    exact ⟨[], Rd.nil _ _ _ _ _, fun x hx => by cases hx⟩
  · have e' : Value.slice a1 n1 c1 = .slice (some a) len cap := by simpa [Value.cells] using hcs
    rw [e']
    have hml : len ≤ m := by rw [hmm]; split <;> omega
    rw [hC] at hi
    obtain ⟨l, hll, hq⟩ := list_of (Q := fun i x => (∀ j, j < k → w.cell? ((a.add (i * k)).add j) = (f x)[j]?) ∧ T x) len (fun i hil => by
      obtain ⟨cs', hc, ht'⟩ := hi i (by omega)
      obtain ⟨_, hcl, hat⟩ := World.cells?_some hc
      obtain ⟨x, rfl, hT⟩ := hE _ _ _ hcl ht'
      exact ⟨x, fun j hj => hat j hj, hT⟩)
    unfold maxLen at hm
    refine ⟨l, ⟨some a, cap, by rw [hll], by omega, by omega, fun h0 => ?_⟩, fun x hx => ?_⟩
    · obtain ⟨b, off, spot⟩ := a
      have hu : ∃ u, (f l[0])[0]? = some u := ⟨_, List.getElem?_eq_getElem (by rw [hfl]; exact hk)⟩
      obtain ⟨u, hu⟩ := hu
      have hc0 := ((hq 0 h0).1 0 hk).trans hu
      rw [add_add, Nat.zero_mul] at hc0
      obtain rfl : spot = none := spot_none hc0
      rw [add_none] at hc0
      have hb' := World.block_lt_of_cell? w _ hc0
      refine ⟨b, off, rfl, Nat.zero_le _, hb', fun i hil j u hu => ?_⟩
      have hj : j < k := by rw [← hfl l[i]]; exact (List.getElem?_eq_some_iff.1 hu).1
      have := ((hq i hil).1 j hj).trans hu
      rw [add_add, add_none] at this
      rwa [← Nat.add_assoc] at this
    · obtain ⟨i, hi', rfl⟩ := List.getElem_of_mem hx
      exact (hq i hi').2
theorem trod_f64 {e : TypeId} (he : P.underlying e = some (.float .f64)) {n : Nat} {cs : List Value} {y : DataW H × List MemPlace} (h : DataW.trod enc P w base spare held n e cs = some y) : ∃ x : Nat, cs = [.float .f64 x] ∧ x < 18446744073709551616 := by
  cases n with
  | zero => simp [DataW.trod] at h
  | succ n =>
    unfold DataW.trod at h
    rw [he] at h
    split at h <;> simp_all
    rename_i k k2 b hk
    obtain ⟨⟨_, hw⟩, _⟩ := h
    subst hk
    exact f64_of hw
/-- The cells of a struct, each by its field. -/
theorem elem_fields {e : TypeId} {fs : Array Field} (he : P.underlying e = some (.struct fs)) (hone : oneCellFields P fs = true) (hC : P.cellsOf e = fs.size) {n : Nat} {cs : List Value} {y : DataW H × List MemPlace} (h : DataW.trod enc P w base spare held n e cs = some y) :
    cs.length = fs.size ∧ ∀ (j : Nat) (f : Field), fs[j]? = some f → ∃ (m : Nat) (v : Value) (z : DataW H × List MemPlace), cs[j]? = some v ∧ DataW.trod enc P w base spare held m f.type [v] = some z := by
  obtain ⟨ys, n', hn', hy, hlen, hyl, hf⟩ := DataW.trod_struct he h
  rw [hC] at hlen
  refine ⟨hlen, fun j f hj => ?_⟩
  obtain ⟨ho, hk⟩ := hone_of hone j f hj
  have hjl : j < fs.size := (Array.getElem?_eq_some_iff.1 hj).1
  have h1 := hf j f hj
  rw [ho, hk] at h1
  have hone' : (cs.drop j).take 1 = [cs[j]'(by omega)] := by rw [List.drop_eq_getElem_cons (by omega)]; rfl
  rw [hone'] at h1
  have hys : ys[j]? = some (ys[j]'(by omega)) := List.getElem?_eq_getElem (by omega)
  exact ⟨_, _, _, List.getElem?_eq_getElem (by omega), h1.trans hys⟩
/-- The cells of a file. -/
theorem elem_file {e ts tf tu ti : TypeId} {f0 f1 f2 f3 f4 f5 : Field} (he : P.underlying e = some (.struct #[f0, f1, f2, f3, f4, f5])) (hone : oneCellFields P #[f0, f1, f2, f3, f4, f5] = true) (hC : P.cellsOf e = 6)
    (e0 : f0.type = ts) (e1 : f1.type = tf) (e2 : f2.type = tu) (e3 : f3.type = ti) (e4 : f4.type = ti) (e5 : f5.type = ti)
    (hs : P.underlying ts = some .string) (hf : P.underlying tf = some (.float .f64)) (hu : P.underlying tu = some (.int .u32)) (hi : P.underlying ti = some (.int .i64))
    (n : Nat) (cs : List Value) (y : DataW H × List MemPlace) (_ : cs.length = 6) (h : DataW.trod enc P w base spare held n e cs = some y) : ∃ x, cs = fc x ∧ (x.rk < 18446744073709551616 ∧ U32F x) := by
  obtain ⟨hl, hj⟩ := elem_fields he hone hC h
  obtain ⟨m0, v0, z0, c0, t0⟩ := hj 0 f0 rfl
  obtain ⟨m1, v1, z1, c1, t1⟩ := hj 1 f1 rfl
  obtain ⟨m2, v2, z2, c2, t2⟩ := hj 2 f2 rfl
  obtain ⟨m3, v3, z3, c3, t3⟩ := hj 3 f3 rfl
  obtain ⟨m4, v4, z4, c4, t4⟩ := hj 4 f4 rfl
  obtain ⟨m5, v5, z5, c5, t5⟩ := hj 5 f5 rfl
  rw [e0] at t0
  rw [e1] at t1
  rw [e2] at t2
  rw [e3] at t3
  rw [e4] at t4
  rw [e5] at t5
  obtain ⟨s, es, _⟩ := DataW.trod_string hs t0
  obtain ⟨q, eq, hq⟩ := trod_f64 hf t1
  obtain ⟨a2, ea2, _, w2⟩ := DataW.trod_int hu t2
  obtain ⟨a3, ea3, _⟩ := DataW.trod_int hi t3
  obtain ⟨a4, ea4, _⟩ := DataW.trod_int hi t4
  obtain ⟨a5, ea5, _⟩ := DataW.trod_int hi t5
  simp only [List.cons.injEq, and_true] at es eq ea2 ea3 ea4 ea5
  subst es eq ea2 ea3 ea4 ea5
  have b2 : 0 ≤ a2 ∧ a2 < 4294967296 := by
    have h1 : IntKind.u32.min ≤ a2 ∧ a2 ≤ IntKind.u32.max := by simpa [Lit.wf] using w2
    have e1 : IntKind.u32.min = 0 := by decide
    have e2 : IntKind.u32.max = 4294967295 := by decide
    omega
  refine ⟨⟨s.data.toList, q, a2, a3, a4, a5⟩, ?_, hq, b2⟩
  unfold fc
  rw [bz_data]
  match cs, hl with
  | [u0, u1, u2, u3, u4, u5], _ =>
    simp at c0 c1 c2 c3 c4 c5
    subst c0 c1 c2 c3 c4 c5
    rfl
theorem array6 {α : Type} {cs : Array α} (h : cs.size = 6) : ∃ c0 c1 c2 c3 c4 c5, cs = #[c0, c1, c2, c3, c4, c5] := by
  obtain ⟨l⟩ := cs
  match l, h with
  | [c0, c1, c2, c3, c4, c5], _ => exact ⟨c0, c1, c2, c3, c4, c5, rfl⟩
/-- A parameter that is a struct of six cells. -/
theorem open_six {α : Type} {f : α → List Value} {T : α → Prop} {r : Reach} {b0 : Nat} {v : Value} {d : DataW H} {p : List MemPlace} {e : TypeId} {fs : Array Field} (he : P.underlying e = some (.struct fs)) (hC : P.cellsOf e = 6)
    (hE : ∀ n cs y, cs.length = 6 → DataW.trod enc P w base spare held n e cs = some y → ∃ x, cs = f x ∧ T x)
    (hv : Value.okWide P w r b0 e v) (h : DataW.Trod enc P w base spare held e v d p) : ∃ x, v = .agg (f x).toArray ∧ T x := by
  obtain ⟨cs, rfl, hsz⟩ := okWide_struct he hv
  obtain ⟨c0, c1, c2, c3, c4, c5, rfl⟩ := array6 (hsz.trans hC)
  obtain ⟨fuel, hf⟩ := h
  have e1 : (Value.agg #[c0, c1, c2, c3, c4, c5]).cells.toList = [c0, c1, c2, c3, c4, c5] := by simp [Value.cells]
  rw [e1] at hf
  obtain ⟨x, hx, hT⟩ := hE _ _ _ rfl hf
  exact ⟨x, by rw [← hx], hT⟩
end
theorem own : ownKnob Try.prog.godebug = none := by kernel_rfl
theorem laidOut : laidOutB Try.prog = true := by kernel_rfl
theorem cells26 : Try.prog.cellsOf 26 = 6 := by kernel_rfl
theorem cells9 : Try.prog.cellsOf 9 = 1 := by kernel_rfl
theorem cells3 : Try.prog.cellsOf 3 = 1 := by kernel_rfl
section
variable {H : Type} {enc : TypeId × Value → H} {w : World} {base : Nat} {spare : Nat → Bool} {held : Bool}
theorem elem26 (n : Nat) (cs : List Value) (y : DataW H × List MemPlace) (hl : cs.length = 6) (h : DataW.trod enc Try.prog w base spare held n 26 cs = some y) : ∃ x, cs = fc x ∧ (x.rk < 18446744073709551616 ∧ U32F x) :=
  elem_file Try.underlying26 (by kernel_rfl) cells26 rfl rfl rfl rfl rfl rfl Try.underlying9 Try.underlying23 Try.underlying24 Try.underlying3 n cs y hl h
/-- A parameter that is a list of files. -/
theorem open_files {r : Reach} {b0 : Nat} {v : Value} {d : DataW H} {p : List MemPlace} (hv : Value.okWide Try.prog w r b0 22 v) (h : DataW.Trod enc Try.prog w base spare held 22 v d p) : ∃ l, Fls 0 w.heap.size w v l ∧ ∀ x ∈ l, x.rk < 18446744073709551616 ∧ U32F x :=
  open_rd (fun x : Fl => x.rk < 18446744073709551616 ∧ U32F x) Try.underlying22 cells26 (Nat.succ_pos _) fc_len (hE := elem26) hv h
/-- .. a file. -/
theorem open_f {r : Reach} {b0 : Nat} {v : Value} {d : DataW H} {p : List MemPlace} (hv : Value.okWide Try.prog w r b0 26 v) (h : DataW.Trod enc Try.prog w base spare held 26 v d p) : ∃ f : Fl, v = (.agg #[.string (bz f.nm), .float .f64 f.rk, .int .u32 f.sm, .int .i64 f.bk, .int .i64 f.fr, .int .i64 f.ln]) ∧ (f.rk < 18446744073709551616 ∧ U32F f) := by
  obtain ⟨f, e, hT⟩ := open_six (f := fc) (T := fun x : Fl => x.rk < 18446744073709551616 ∧ U32F x) Try.underlying26 cells26 (hE := elem26) hv h
  exact ⟨f, e.trans (by rw [fc_arr]), hT⟩
/-- .. octets. -/
theorem elem5 (n : Nat) (cs : List Value) (y : DataW H × List MemPlace) (_ : cs.length = 1) (h : DataW.trod enc Try.prog w base spare held n 5 cs = some y) : ∃ x, cs = bc x ∧ True := by
  obtain ⟨z, rfl, _, hz⟩ := DataW.trod_int Try.underlying5 h
  have h1 : IntKind.u8.min ≤ z ∧ z ≤ IntKind.u8.max := by simpa [Lit.wf] using hz
  have e1 : IntKind.u8.min = 0 := by decide
  have e2 : IntKind.u8.max = 255 := by decide
  refine ⟨UInt8.ofNat z.toNat, ?_, trivial⟩
  unfold bc u8v n8
  rw [ofNat_toNat']
  congr 2
  omega
theorem open_bytes {r : Reach} {b0 : Nat} {v : Value} {d : DataW H} {p : List MemPlace} (hv : Value.okWide Try.prog w r b0 27 v) (h : DataW.Trod enc Try.prog w base spare held 27 v d p) : ∃ l, Bs 0 w.heap.size w v l := by
  obtain ⟨l, hl, _⟩ := open_rd (fun _ => True) Try.underlying27 (by kernel_rfl : Try.prog.cellsOf 5 = 1) (Nat.succ_pos _) bc_len (hE := elem5) hv h
  exact ⟨l, hl⟩
end
end Go.Proofs.Ytnjepbehfioclaa
