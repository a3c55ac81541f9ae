import Derived.Test.YtkgfmiicfegnlaaL1
import Derived.Maps.OwnOps
import Derived.Maps.OwnSet
import Derived.Maps.Views
import Derived.Carry
import Derived.StringKeys
namespace Go.Proofs.Ytkgfmiicfegnlaa
open Go.RowKit Go.Maps Go.ChangeMaps Go.MapKept

/-! ### a map of names, and a table -/
def lnOf (t : List Fl) (p : List UInt8) : Int := if thereB t p = true then (nth t (posn t p)).ln else 0
theorem ln_mem {t : List Fl} (h : Up t) {f : Fl} (hf : f ∈ t) : lnOf t f.nm = f.ln := by
  have h1 : thereB t f.nm = true := there_iff.2 ⟨f, hf, rfl⟩
  obtain ⟨h2, h3⟩ := posn_get h h1
  unfold lnOf
  rw [if_pos h1, up_uniq h (nth_mem h2) hf h3]
theorem ln_no {t : List Fl} {p : List UInt8} (h : thereB t p = false) : lnOf t p = 0 := by unfold lnOf; rw [h]; rfl
abbrev DW := DataW Unit
def kl (p : List UInt8) : Lit := .string p
def dz (z : Int) : DW := .lit (.int .i64 z)
structure MapT (D : DW) (t : List Fl) : Prop where
  size : Maps.size D = t.length
  hs : ∀ p, Maps.has D (kl p) = thereB t p
  at_ : ∀ p, D.atKey (kl p) (dz 0) = dz (lnOf t p)
theorem kl_ne {p q : List UInt8} (h : p ≠ q) : kl p ≠ kl q := fun e => h (by injection e)
theorem kl_key (p : List UInt8) : WideAt.IsKeyLit (kl p) := trivial
theorem mapT_nil : MapT (.map []) [] := ⟨rfl, fun _ => rfl, fun _ => rfl⟩
theorem MapT.put {D : DW} {t : List Fl} (h : MapT D t) (hD : Maps.Tidy D) (hu : Up t) (f : Fl) : MapT (D.put (kl f.nm) (dz f.ln)) (putF t f) := by
  have hi := hD.isMap
  refine ⟨?_, fun p => ?_, fun p => ?_⟩
  · rw [Maps.size_put hD, h.hs, h.size, len_put hu]
    cases thereB t f.nm <;> rfl
  · rw [there_put]
    by_cases e : p = f.nm
    · subst e
      rw [Maps.has_put_same hi (kl_key _)]; simp
    · rw [Maps.has_put_other (kl_ne e), h.hs]
      have : (f.nm == p) = false := by rw [beq_eq_false_iff_ne]; exact fun q => e q.symm
      rw [this]; simp
  · by_cases e : p = f.nm
    · subst e
      rw [Maps.atKey_put_same hi (kl_key _), ln_mem (up_put hu f) (mem_put.2 (.inl rfl))]
    · rw [Maps.atKey_put_other (kl_ne e), h.at_]
      congr 1
      cases ht : thereB t p with
      | true =>
        obtain ⟨x, hx, rfl⟩ := there_iff.1 ht
        rw [ln_mem hu hx, ln_mem (up_put hu f) (mem_put.2 (.inr ⟨hx, e⟩))]
      | false =>
        have h2 : thereB (putF t f) p = false := by
          rw [there_put, ht, Bool.false_or, beq_eq_false_iff_ne]; exact fun q => e q.symm
        rw [ln_no ht, ln_no h2]
theorem there_del2 (t : List Fl) (p q : List UInt8) : thereB (delF t p) q = (thereB t q && p != q) := by
  rw [Bool.eq_iff_iff, there_iff, Bool.and_eq_true, there_iff, bne_iff_ne]
  constructor
  · rintro ⟨x, hx, rfl⟩
    obtain ⟨h1, h2⟩ := mem_del.1 hx
    exact ⟨⟨x, h1, rfl⟩, fun e => h2 e.symm⟩
  · rintro ⟨⟨x, hx, rfl⟩, h⟩
    exact ⟨x, mem_del.2 ⟨hx, fun e => h e.symm⟩, rfl⟩
theorem MapT.del {D : DW} {t : List Fl} (h : MapT D t) (hD : Maps.Tidy D) (hu : Up t) (p : List UInt8) : MapT (D.del (kl p)) (delF t p) := by
  refine ⟨?_, fun q => ?_, fun q => ?_⟩
  · have h1 := Maps.size_del (k := kl p) hD
    have h2 := len_del hu p
    rw [h.hs, h.size] at h1
    cases ht : thereB t p <;> rw [ht] at h1 h2 <;> simp at h1 h2 <;> omega
  · rw [there_del2]
    by_cases e : q = p
    · subst e
      rw [Maps.has_del_same]; simp
    · rw [Maps.has_del_other (kl_ne e), h.hs]
      have : (p != q) = true := by rw [bne_iff_ne]; exact fun x => e x.symm
      rw [this]; simp
  · by_cases e : q = p
    · subst e
      have h2 : thereB (delF t q) q = false := by rw [there_del2]; simp
      rw [Maps.atKey_del_same, ln_no h2]
    · rw [Maps.atKey_del_other (kl_ne e), h.at_]
      congr 1
      cases ht : thereB t q with
      | true =>
        obtain ⟨x, hx, rfl⟩ := there_iff.1 ht
        rw [ln_mem hu hx, ln_mem (up_del hu p) (mem_del.2 ⟨hx, e⟩)]
      | false =>
        have h2 : thereB (delF t p) q = false := by rw [there_del2, ht]; rfl
        rw [ln_no ht, ln_no h2]

/-! ### in a world -/
theorem law9 : Keyed Try.prog 9 := string_keyed Try.underlying9
theorem zero3 (w : World) : (zeroValue 3).run Try.prog w = .ok (.int .i64 0) w := by kernel_rfl
theorem key9 (p : List UInt8) (h : p.length ≤ 1000) : keyOf Try.prog 9 (.string (bz p)) = some (kl p) := by
  have h1 := Go.WideMaps.keyOf_string_mk (P := Try.prog) Try.underlying9 (s := bz p) (by rw [bz_size]; unfold maxLen; omega)
  exact h1
def MapAt (w : World) (b n : Nat) (t : List Fl) : Prop := ∃ D : DW, w.ownsMap Try.prog 9 (plainElem Try.prog 3) b n D ∧ MapT D t
theorem MapAt.look {w : World} {b n : Nat} {t : List Fl} (h : MapAt w b n t) (p : List UInt8) (hp : p.length ≤ 1000) : (Instr.lookup 45 (.map (some b)) (.string (bz p)) false).run Try.prog w = .ok (.int .i64 (lnOf t p)) w := by
  obtain ⟨D, h1, h2⟩ := h
  obtain ⟨c, hr, ha, _⟩ := h1.lookup_int law9 Try.underlying45 Try.underlying3 (zero3 w) (key9 p hp)
  have h3 : D.atKey (kl p) (.lit (.int .i64 0)) = dz (lnOf t p) := h2.at_ p
  rw [h3] at ha
  have : lnOf t p = c := by unfold dz at ha; injection ha with e; injection e
  rw [this]; exact hr
theorem MapAt.len {w : World} {b n : Nat} {t : List Fl} (h : MapAt w b n t) (ty : TypeId) : (Builtin.len_ #[45] ty #[.map (some b)]).run Try.prog w = .ok (.int .i64 t.length) w := by
  obtain ⟨D, h1, h2⟩ := h
  rw [h1.len Try.underlying45, h2.size]
theorem MapAt.lt {w : World} {b n : Nat} {t : List Fl} (h : MapAt w b n t) : b < w.heap.size := by obtain ⟨D, h1, _⟩ := h; exact h1.lt
theorem MapAt.mono {w : World} {b n n' : Nat} {t : List Fl} (h : MapAt w b n t) (hn : n ≤ n') : MapAt w b n' t := by obtain ⟨D, h1, h2⟩ := h; exact ⟨D, h1.mono hn, h2⟩
theorem MapAt.below {w w' : World} {b n : Nat} {t : List Fl} (h : MapAt w b n t) (hb : Below w.heap.size w w') : MapAt w' b n t := by
  have hlt := h.lt
  obtain ⟨D, ⟨es, clock, h1, h2⟩, h3⟩ := h
  exact ⟨D, ⟨es, clock, (hb.block b hlt).trans h1, h2⟩, h3⟩
theorem turn_block {w w' : World} {b : Nat} (h : w.mapTurned w' b) {k : Nat} (hk : k ≠ b) : w'.heap[k]? = w.heap[k]? := by
  obtain ⟨es, clock, es', clock', hb, rfl⟩ := h
  exact heap_setBlock_other hb _ hk
theorem turn_below {B : Nat} {w w' : World} {b : Nat} (h : w.mapTurned w' b) (hB : B ≤ b) : Below B w w' := by
  have hh := h
  obtain ⟨es, clock, es', clock', hb, rfl⟩ := h
  exact ⟨rfl, rfl, rfl, by simp [setBlock], fun k hk => turn_block hh (by omega)⟩
theorem turn_size {w w' : World} {b : Nat} (h : w.mapTurned w' b) : w'.heap.size = w.heap.size := by
  obtain ⟨es, clock, es', clock', hb, rfl⟩ := h
  simp [setBlock]
theorem turn_cell {w w' : World} {b : Nat} (h : w.mapTurned w' b) {a : Addr} {u : Value} (hc : w.cell? a = some u) : w'.cell? a = some u := by
  by_cases e : a.block = b
  · obtain ⟨es, clock, es', clock', hb, rfl⟩ := h
    unfold World.cell? at hc
    rw [e, hb] at hc
    simp at hc
  · exact (World.cell?_of_block (turn_block h e)).trans hc
theorem Rd.turn {α : Type} {k : Nat} {f : α → List Value} {w w' : World} {v : Value} {l : List α} {b : Nat} (h : Rd k f 0 w.heap.size w v l) (ht : w.mapTurned w' b) : Rd k f 0 w'.heap.size w' v l := by
  obtain ⟨A, c, rfl, h1, h2, h3⟩ := h
  refine ⟨A, c, rfl, h1, h2, fun h0 => ?_⟩
  obtain ⟨b0, off, rfl, hb, hb', hc⟩ := h3 h0
  exact ⟨b0, off, rfl, hb, by rw [turn_size ht]; exact hb', fun i hi j u hu => turn_cell ht (hc i hi j u hu)⟩
section
variable (w : World) {ops : Array Oper} {rest : List Oper} {o : Oper} {a : Act} {Q : Exit → Act → World → Prop}
theorem wpList_mput (hg : o.guard = none) (m x v : Operand) (hop : o.op = Op.mapUpdate 45 m x v) (b n : Nat) (t : List Fl) (hm : a.eval m = .map (some b)) (h : MapAt w b n t) (hn : n < 1000) (hu : Up t) (f : Fl)
    (hx : a.eval x = .string (bz f.nm)) (hv : a.eval v = .int .i64 f.ln) (hl : f.nm.length ≤ 1000) (hw : (Lit.int .i64 f.ln).wf = true)
    (hK : ∀ w', MapAt w' b (n + 1) (putF t f) → w.mapTurned w' b → wpList Try.prog ops Q rest (a.put o.dst undef) w') : wpList Try.prog ops Q (o :: rest) a w := by
  obtain ⟨D, h1, h2⟩ := h
  exact wpList_mapUpdate_in w hg m x v 45 hop 9 3 law9 Try.underlying45 _ b n D hm h1 (by unfold maxLen; omega) _ _ _ hx hv (key9 _ hl) (dz f.ln) [] (plainElem_int Try.underlying3 hw) (fun w' h3 h4 => hK w' ⟨_, h3, h2.put (h1.tidy law9) hu f⟩ h4)
theorem wpList_mdel (hg : o.guard = none) (m x : Operand) (hop : o.op = Op.call { callee := Callee.builtin Builtin.delete, args := #[m, x], argTypes := #[45, 9] }) (b n : Nat) (t : List Fl) (hm : a.eval m = .map (some b)) (h : MapAt w b n t) (hu : Up t) (p : List UInt8)
    (hx : a.eval x = .string (bz p)) (hl : p.length ≤ 1000)
    (hK : ∀ w', MapAt w' b n (delF t p) → w.mapTurned w' b → wpList Try.prog ops Q rest (a.put o.dst (.tuple #[])) w') : wpList Try.prog ops Q (o :: rest) a w := by
  obtain ⟨D, h1, h2⟩ := h
  exact wpList_delete_own w hg m x 45 9 hop 3 law9 Try.underlying45 _ b n D hm h1 _ _ hx (key9 _ hl) (fun w' h3 h4 => hK w' ⟨_, h3, h2.del (h1.tidy law9) hu p⟩ h4)
end
theorem map_made (w : World) : MapAt (w.alloc (.map #[] 0)) w.heap.size 0 [] := ⟨.map [], World.ownsMap_made _ _ _ _, mapT_nil⟩
end Go.Proofs.Ytkgfmiicfegnlaa
