import Derived.Test.YtcgfcdbchcehmaaS55
namespace Go.Proofs.Ytcgfcdbchcehmaa
open Go.RowKit

/-- Cells that read as pages, whatever a page's bytes read as. -/
def PgX (Rd : Value → List UInt8 → Prop) (cs : List Value) (ps : List Pg) : Prop := ∀ (j : Nat) (p : Pg), ps[j]? = some p → ∃ bv, cs[j * 2]? = some (.int .i64 p.at_) ∧ cs[j * 2 + 1]? = some bv ∧ Rd bv p.b
theorem PgX.mono {Rd Rd' : Value → List UInt8 → Prop} {cs : List Value} {ps : List Pg} (h : PgX Rd cs ps) (hm : ∀ v l, Rd v l → Rd' v l) : PgX Rd' cs ps := fun j p hj => by
  obtain ⟨bv, a, b, c⟩ := h j p hj
  exact ⟨bv, a, b, hm _ _ c⟩
theorem PgX.nil (Rd : Value → List UInt8 → Prop) : PgX Rd [] [] := fun j p hj => by simp at hj
theorem PgX.snoc {Rd : Value → List UInt8 → Prop} {cs : List Value} {ps : List Pg} {a : Int} {l : List UInt8} {bv : Value} (h : PgX Rd cs ps) (hl : cs.length = ps.length * 2) (hb : Rd bv l) : PgX Rd (cs ++ [.int .i64 a, bv]) (ps ++ [⟨a, l⟩]) := fun j q hj => by
  rcases Nat.lt_or_ge j ps.length with hlt | hge
  · rw [List.getElem?_append_left hlt] at hj
    obtain ⟨v, a, b, c⟩ := h j q hj
    exact ⟨v, by rw [List.getElem?_append_left (by omega)]; exact a, by rw [List.getElem?_append_left (by omega)]; exact b, c⟩
  · have hj1 : j = ps.length := by
      have h1 := (List.getElem?_eq_some_iff.1 hj).1
      rw [List.length_append, List.length_singleton] at h1
      omega
    subst hj1
    rw [List.getElem?_append_right (Nat.le_refl _), Nat.sub_self] at hj
    injection hj with hj
    subst hj
    refine ⟨bv, ?_, ?_, hb⟩
    · rw [List.getElem?_append_right (by omega), hl, Nat.sub_self]; rfl
    · rw [List.getElem?_append_right (by omega), hl, show ps.length * 2 + 1 - ps.length * 2 = 1 by omega]; rfl

/-- What an append to a row of the call's own leaves as it was. -/
theorem wrStep {w wr wq w6 wa : World} {g lo H2 m : Nat} {v : Value} {xs : List Value} {C1 C2 : Array Value} (R : wr.ownsRow H2 41 2 v m xs) (K1 : Blk wr g 25 C1) (K2 : Blk wr (g + 1) 25 C2) (G : Agree lo H2 wa wr) (Z : H2 ≤ wr.heap.size)
    (B : Below w.heap.size w wr) (hle : w.heap.size ≤ H2) (hq : Below wr.heap.size wr wq) (hg : wq.grownBy w6 v.ownBlock) :
    Blk w6 g 25 C1 ∧ Blk w6 (g + 1) 25 C2 ∧ Agree lo H2 wa w6 ∧ H2 ≤ w6.heap.size ∧ Below w.heap.size w w6 ∧ (∀ vb n xb, wr.ownsRow H2 5 1 vb n xb → w6.ownsRow H2 5 1 vb n xb) := by
  have Rq := own_below R hq (Nat.le_refl _)
  have K1q := K1.below hq K1.lt
  have K2q := K2.below hq K2.lt
  refine ⟨Blk.grown9 K1q hg (own_ne9 Rq K1q (by decide)), Blk.grown9 K2q hg (own_ne9 Rq K2q (by decide)), fun k h1 h2 => ?_, Nat.le_trans Z (Nat.le_trans hq.size hg.size), bl_grown (bl_call B hq) hg (fun k hk => Nat.le_trans hle (own_base9 R k hk)), fun vb n xb h => ?_⟩
  · have h3 := hq.block k (by omega)
    refine (hg.block k (by have := hq.size; omega) (fun e => ?_)).trans (h3.trans (G k h1 h2))
    have := own_base9 R k e.symm
    omega
  · have hq' := own_below h hq (Nat.le_refl _)
    exact own_grown9 hq' hg (own_own9 hq' Rq (by decide))

set_option maxHeartbeats 1000000 in
theorem refwrite_bad (lo : Nat) (v : Value) (d : Dk) (at_ : Int) (A3 : Option Addr) (m c3 : Nat) (w : World) (h : Dsk lo w.heap.size w v d) (_hm : m ≤ 9223372036854775807) (hq : wrB d at_ m = false) :
    Calls Try.prog 13 #[v, .int .i64 at_, .slice A3 m c3] w fun e w' => e = .returned (.tuple #[.agg #[.slice none 0 0, .slice none 0 0, .int .i64 0], .int .i64 1]) ∧ Below w.heap.size w w' := by
  have his : ∀ W, Below w.heap.size w W → Calls Try.prog 36 #[v, .int .i64 at_] W fun e w' => e = .returned (.bool (okD d && hasB d.dry.length at_)) ∧ Below W.heap.size W w' :=
    fun W hB => refis_any lo v d at_ W ((h.below hB (Nat.le_refl _)).mono (Nat.le_refl _) hB.size)
  obtain ⟨A, c, A', c', rfl⟩ := h.form
  have hq' : (okD d && hasB d.dry.length at_) = false ∨ ((okD d && hasB d.dry.length at_) = true ∧ ¬ (m : Int) = 32) := by
    cases h1 : okD d && hasB d.dry.length at_ with
    | false => exact .inl rfl
    | true => unfold wrB at hq; rw [h1, Bool.true_and] at hq; simp at hq; exact .inr ⟨rfl, by omega⟩
  generalize (okD d && hasB d.dry.length at_) = ok at *
  replace his := hide his
  clear h hq
  rcases hq' with rfl | ⟨rfl, h1⟩
  all_goals
    go_enter Try.func13, Try.ntmps13
    go_wp2_with (first
      | (go_at_call 36; refine (unhide his _ (by (repeat (first | with_reducible exact Below.refl _ _ | with_reducible assumption | with_reducible refine Below.drew ?_ | with_reducible refine bl_alloc ?_ _ | with_reducible refine bl_call ?_ (by assumption) | (focus (with_reducible refine Below.setCell ?_ ?_ _; rotate_left; focus (first | omega | (simp <;> omega)))) | fail)))).mono ?_; rintro e w1 ⟨rfl, hb1⟩; have HB1 : Below w.heap.size w w1 := bl_call (by (repeat (first | with_reducible exact Below.refl _ _ | with_reducible assumption | with_reducible refine Below.drew ?_ | with_reducible refine bl_alloc ?_ _ | with_reducible refine bl_call ?_ (by assumption) | (focus (with_reducible refine Below.setCell ?_ ?_ _; rotate_left; focus (first | omega | (simp <;> omega)))) | fail))) hb1; have hk := hide (Blk.below (g := w.heap.size + 1) (t := 25) (cs := #[.slice none 0 0, .slice none 0 0, .int .i64 0]) (Blk.new (by simp)) hb1 (by simp)); have f0 := (unhide hk).frozen 0; have f1 := (unhide hk).frozen 1; have f2 := (unhide hk).frozen 2; have r0 := (unhide hk).cell 0; have r1 := (unhide hk).cell 1; have r2 := (unhide hk).cell 2; simp at r0 r1 r2; (obtain ⟨hc1, hf1⟩ := bcell hb1; have hz1 := hb1.size; (try have y0 : w.heap.size < w1.heap.size := (by (simp at hz1; omega))); (try have y1 : w.heap.size + 1 < w1.heap.size := (by (simp at hz1; omega))); (try have y2 : w.heap.size + 2 < w1.heap.size := (by (simp at hz1; omega))); (try have y3 : w.heap.size + 3 < w1.heap.size := (by (simp at hz1; omega))); clear hz1))
      | fail)
    refine ret_disk2 rfl (w.heap.size + 1) #[.slice none 0 0, .slice none 0 0, .int .i64 0] rfl (.int .i64 1) rfl rfl (unhide hk).set3 rfl ⟨rfl, ?_⟩
    (repeat (first | with_reducible exact Below.refl _ _ | with_reducible assumption | with_reducible refine Below.drew ?_ | with_reducible refine bl_alloc ?_ _ | with_reducible refine bl_call ?_ (by assumption) | (focus (with_reducible refine Below.setCell ?_ ?_ _; rotate_left; focus (first | omega | (simp <;> omega)))) | fail))

set_option maxHeartbeats 1000000 in
theorem refwrite_dead (lo : Nat) (v : Value) (d : Dk) (at_ : Int) (A9 : Option Addr) (c9 : Nat) (w : World) (h : Dsk lo w.heap.size w v d) (hq : (okD d && hasB d.dry.length at_) = true) (h0 : d.left = 0) :
    Calls Try.prog 13 #[v, .int .i64 at_, .slice A9 32 c9] w fun e w' => e = .returned (.tuple #[.agg #[.slice none 0 0, .slice none 0 0, .int .i64 0], .int .i64 11]) ∧ Below w.heap.size w w' := by
  have his : ∀ W, Below w.heap.size w W → Calls Try.prog 36 #[v, .int .i64 at_] W fun e w' => e = .returned (.bool true) ∧ Below W.heap.size W w' :=
    fun W hB => by have := refis_any lo v d at_ W ((h.below hB (Nat.le_refl _)).mono (Nat.le_refl _) hB.size); rwa [hq] at this
  obtain ⟨A, c, A', c', rfl⟩ := h.form
  rw [h0] at his ⊢
  have hdd := fun W => refdeed_dead (.slice A d.dry.length c) (.slice A' d.wet.length c') W
  replace his := hide his; replace hdd := hide hdd
  clear h hq h0
  go_enter Try.func13, Try.ntmps13
  go_wp2_with (first
    | (go_at_call 36; refine (unhide his _ (by (repeat (first | with_reducible exact Below.refl _ _ | with_reducible assumption | with_reducible refine Below.drew ?_ | with_reducible refine bl_alloc ?_ _ | with_reducible refine bl_call ?_ (by assumption) | (focus (with_reducible refine Below.setCell ?_ ?_ _; rotate_left; focus (first | omega | (simp <;> omega)))) | fail)))).mono ?_; rintro e w1 ⟨rfl, hb1⟩; have HB1 : Below w.heap.size w w1 := bl_call (by (repeat (first | with_reducible exact Below.refl _ _ | with_reducible assumption | with_reducible refine Below.drew ?_ | with_reducible refine bl_alloc ?_ _ | with_reducible refine bl_call ?_ (by assumption) | (focus (with_reducible refine Below.setCell ?_ ?_ _; rotate_left; focus (first | omega | (simp <;> omega)))) | fail))) hb1
       have kb1 := Blk.below (g := w.heap.size) (t := 25) (cs := #[.slice A d.dry.length c, .slice A' d.wet.length c', .int .i64 0]) (by (repeat (first | with_reducible assumption | (focus (with_reducible refine Blk.new ?_; focus (simp <;> fail))) | with_reducible refine Blk.set3 (a := .slice none 0 0) (b := .slice none 0 0) (c := .int .i64 0) ?_ | with_reducible refine Blk.alloc ?_ _ | with_reducible refine Blk.drew ?_ | (focus (with_reducible refine Blk.far ?_ ?_ _; rotate_left; focus (first | omega | (simp <;> omega)))) | (focus (with_reducible refine Blk.below ?_ hb1 ?_; rotate_left; focus (first | omega | (simp <;> omega)))) | fail))) hb1 (by simp <;> omega)
       have kr1 := Blk.below (g := w.heap.size + 1) (t := 25) (cs := #[.slice none 0 0, .slice none 0 0, .int .i64 0]) (by (repeat (first | with_reducible assumption | (focus (with_reducible refine Blk.new ?_; focus (simp <;> fail))) | with_reducible refine Blk.set3 (a := .slice none 0 0) (b := .slice none 0 0) (c := .int .i64 0) ?_ | with_reducible refine Blk.alloc ?_ _ | with_reducible refine Blk.drew ?_ | (focus (with_reducible refine Blk.far ?_ ?_ _; rotate_left; focus (first | omega | (simp <;> omega)))) | (focus (with_reducible refine Blk.below ?_ hb1 ?_; rotate_left; focus (first | omega | (simp <;> omega)))) | fail))) hb1 (by simp <;> omega)
       have k0 := kb1.cell 0; have k1 := kb1.cell 1; have k2 := kb1.cell 2
       simp at k0 k1 k2
       have z0 := kb1.lt
       replace HB1 := hide HB1; replace kb1 := hide kb1; replace kr1 := hide kr1; clear hb1)
    | (go_at_call 37; refine (unhide hdd _).mono ?_; rintro e w2 ⟨rfl, hb2⟩
       clear k0 k1 k2 z0
       have kb := (unhide kb1).below hb2 (unhide kb1).lt
       have kr := (unhide kr1).below hb2 (unhide kr1).lt
       have HB2 : Below w.heap.size w w2 := bl_call (unhide HB1) hb2
       have f0 := kb.frozen 0; have f1 := kb.frozen 1; have f2 := kb.frozen 2
       have k0 := kb.cell 0; have k1 := kb.cell 1; have k2 := kb.cell 2
       have e0 := kr.frozen 0; have e1 := kr.frozen 1; have e2 := kr.frozen 2
       have r0 := kr.cell 0; have r1 := kr.cell 1; have r2 := kr.cell 2
       simp at k0 k1 k2 r0 r1 r2
       have z0 := kb.lt; have z1 := kr.lt
       replace HB2 := hide HB2; replace kb := hide kb; replace kr := hide kr; clear hb2)
    | fail)
  have Kr2 := (((unhide kr).far (p := ⟨w.heap.size, 0, none⟩) (by simp) (.slice none 0 0)).far (p := ⟨w.heap.size, 1, none⟩) (by simp) (.slice none 0 0)).far (p := ⟨w.heap.size, 2, none⟩) (by simp) (.int .i64 0)
  refine ret_disk2 rfl (w.heap.size + 1) #[.slice none 0 0, .slice none 0 0, .int .i64 0] rfl (.int .i64 11) rfl rfl Kr2.set3 rfl ⟨rfl, ?_⟩
  exact ((((((unhide HB2).setCell (Nat.le_refl _) _).setCell (Nat.le_refl _) _).setCell (Nat.le_refl _) _).setCell (by simp) _).setCell (by simp) _).setCell (by simp) _
end Go.Proofs.Ytcgfcdbchcehmaa
