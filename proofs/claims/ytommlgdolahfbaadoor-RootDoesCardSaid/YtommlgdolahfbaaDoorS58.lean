import Derived.Test.YtommlgdolahfbaaDoorS55
namespace Go.Proofs.YtommlgdolahfbaaDoor
set_option maxRecDepth 100000
open Go.RowKit

/-- Cells that read as pages, whatever a page's bytes read as. -/
def PgX (Rd : Value → List UInt8 → Prop) (cs : List Value) (ps : List Pg) : Prop := ∀ (j : Nat) (p : Pg), ps[j]? = some p → ∃ bv, cs[j * 2]? = some (.int .i64 p.at_) ∧ cs[j * 2 + 1]? = some bv ∧ Rd bv p.b
theorem PgX.mono {Rd Rd' : Value → List UInt8 → Prop} {cs : List Value} {ps : List Pg} (h : PgX Rd cs ps) (hm : ∀ v l, Rd v l → Rd' v l) : PgX Rd' cs ps := fun j p hj => by
  obtain ⟨bv, a, b, c⟩ := h j p hj
  exact ⟨bv, a, b, hm _ _ c⟩
theorem PgX.nil (Rd : Value → List UInt8 → Prop) : PgX Rd [] [] := fun j p hj => by simp at hj
theorem PgX.snoc {Rd : Value → List UInt8 → Prop} {cs : List Value} {ps : List Pg} {a : Int} {l : List UInt8} {bv : Value} (h : PgX Rd cs ps) (hl : cs.length = ps.length * 2) (hb : Rd bv l) : PgX Rd (cs ++ [.int .i64 a, bv]) (ps ++ [⟨a, l⟩]) := fun j q hj => by
  rcases Nat.lt_or_ge j ps.length with hlt | hge
  · rw [List.getElem?_append_left hlt] at hj
    obtain ⟨v, a, b, c⟩ := h j q hj
    exact ⟨v, by rw [List.getElem?_append_left (by omega)]; exact a, by rw [List.getElem?_append_left (by omega)]; exact b, c⟩
  · have hj1 : j = ps.length := by
      have h1 := (List.getElem?_eq_some_iff.1 hj).1
      rw [List.length_append, List.length_singleton] at h1
      omega
    subst hj1
    rw [List.getElem?_append_right (Nat.le_refl _), Nat.sub_self] at hj
    injection hj with hj
    subst hj
    refine ⟨bv, ?_, ?_, hb⟩
    · rw [List.getElem?_append_right (by omega), hl, Nat.sub_self]; rfl
    · rw [List.getElem?_append_right (by omega), hl, show ps.length * 2 + 1 - ps.length * 2 = 1 by omega]; rfl

/-- What an append to a row of the call's own leaves as it was. -/
theorem wrStep {w wr wq w6 wa : World} {g lo H2 m : Nat} {v : Value} {xs : List Value} {C1 C2 : Array Value} (R : wr.ownsRow H2 56 2 v m xs) (K1 : Blk wr g 31 C1) (K2 : Blk wr (g + 1) 31 C2) (G : Agree lo H2 wa wr) (Z : H2 ≤ wr.heap.size)
    (B : Below w.heap.size w wr) (hle : w.heap.size ≤ H2) (hq : Below wr.heap.size wr wq) (hg : wq.grownBy w6 v.ownBlock) :
    Blk w6 g 31 C1 ∧ Blk w6 (g + 1) 31 C2 ∧ Agree lo H2 wa w6 ∧ H2 ≤ w6.heap.size ∧ Below w.heap.size w w6 ∧ (∀ vb n xb, wr.ownsRow H2 5 1 vb n xb → w6.ownsRow H2 5 1 vb n xb) := by
  have Rq := own_below R hq (Nat.le_refl _)
  have K1q := K1.below hq K1.lt
  have K2q := K2.below hq K2.lt
  refine ⟨Blk.grown9 K1q hg (own_ne9 Rq K1q (by decide)), Blk.grown9 K2q hg (own_ne9 Rq K2q (by decide)), fun k h1 h2 => ?_, Nat.le_trans Z (Nat.le_trans hq.size hg.size), bl_grown (bl_call B hq) hg (fun k hk => Nat.le_trans hle (own_base9 R k hk)), fun vb n xb h => ?_⟩
  · have h3 := hq.block k (by omega)
    refine (hg.block k (by have := hq.size; omega) (fun e => ?_)).trans (h3.trans (G k h1 h2))
    have := own_base9 R k e.symm
    omega
  · have hq' := own_below h hq (Nat.le_refl _)
    exact own_grown9 hq' hg (own_own9 hq' Rq (by decide))

set_option maxHeartbeats 1000000 in
theorem refwrite_bad (lo : Nat) (v : Value) (d : Dk) (at_ : Int) (A3 : Option Addr) (m c3 : Nat) (w : World) (h : Dsk lo w.heap.size w v d) (_hm : m ≤ 9223372036854775807) (hq : wrB d at_ m = false) :
    Calls Tryd.prog 39 #[v, .int .i64 at_, .slice A3 m c3] w fun e w' => e = .returned (.tuple #[.agg #[.slice none 0 0, .slice none 0 0, .int .i64 0], .int .i64 1]) ∧ Below w.heap.size w w' := by
  have his : ∀ W, Below w.heap.size w W → Calls Tryd.prog 56 #[v, .int .i64 at_] W fun e w' => e = .returned (.bool (okD d && hasB d.dry.length at_)) ∧ Below W.heap.size W w' :=
    fun W hB => refis_any lo v d at_ W ((h.below hB (Nat.le_refl _)).mono (Nat.le_refl _) hB.size)
  obtain ⟨A, c, A', c', rfl⟩ := h.form
  have hq' : (okD d && hasB d.dry.length at_) = false ∨ ((okD d && hasB d.dry.length at_) = true ∧ ¬ (m : Int) = 32) := by
    cases h1 : okD d && hasB d.dry.length at_ with
    | false => exact .inl rfl
    | true => unfold wrB at hq; rw [h1, Bool.true_and] at hq; simp at hq; exact .inr ⟨rfl, by omega⟩
  generalize (okD d && hasB d.dry.length at_) = ok at *
  replace his := hide his
  clear h hq
  rcases hq' with rfl | ⟨rfl, h1⟩
  all_goals
    go_enter Tryd.func39, Tryd.ntmps39
    go_wp2_with (first
      | (go_at_call 56; refine (unhide his _ (by (repeat (first | with_reducible exact Below.refl _ _ | with_reducible assumption | with_reducible refine Below.drew ?_ | with_reducible refine bl_alloc ?_ _ | with_reducible refine bl_call ?_ (by assumption) | (focus (with_reducible refine Below.setCell ?_ ?_ _; rotate_left; focus (first | omega | (simp <;> omega)))) | fail)))).mono ?_; rintro e w1 ⟨rfl, hb1⟩; have HB1 : Below w.heap.size w w1 := bl_call (by (repeat (first | with_reducible exact Below.refl _ _ | with_reducible assumption | with_reducible refine Below.drew ?_ | with_reducible refine bl_alloc ?_ _ | with_reducible refine bl_call ?_ (by assumption) | (focus (with_reducible refine Below.setCell ?_ ?_ _; rotate_left; focus (first | omega | (simp <;> omega)))) | fail))) hb1; have hk := hide (Blk.below (g := w.heap.size + 1) (t := 31) (cs := #[.slice none 0 0, .slice none 0 0, .int .i64 0]) (Blk.new (by simp)) hb1 (by simp)); have f0 := (unhide hk).frozen 0; have f1 := (unhide hk).frozen 1; have f2 := (unhide hk).frozen 2; have r0 := (unhide hk).cell 0; have r1 := (unhide hk).cell 1; have r2 := (unhide hk).cell 2; simp at r0 r1 r2; (obtain ⟨hc1, hf1⟩ := bcell hb1; have hz1 := hb1.size; (try have y0 : w.heap.size < w1.heap.size := (by (simp at hz1; omega))); (try have y1 : w.heap.size + 1 < w1.heap.size := (by (simp at hz1; omega))); (try have y2 : w.heap.size + 2 < w1.heap.size := (by (simp at hz1; omega))); (try have y3 : w.heap.size + 3 < w1.heap.size := (by (simp at hz1; omega))); clear hz1))
      | fail)
    refine ret_disk2 rfl (w.heap.size + 1) #[.slice none 0 0, .slice none 0 0, .int .i64 0] rfl (.int .i64 1) rfl rfl (unhide hk).set3 rfl ⟨rfl, ?_⟩
    (repeat (first | with_reducible exact Below.refl _ _ | with_reducible assumption | with_reducible refine Below.drew ?_ | with_reducible refine bl_alloc ?_ _ | with_reducible refine bl_call ?_ (by assumption) | (focus (with_reducible refine Below.setCell ?_ ?_ _; rotate_left; focus (first | omega | (simp <;> omega)))) | fail))

set_option maxHeartbeats 1000000 in
theorem refwrite_dead (lo : Nat) (v : Value) (d : Dk) (at_ : Int) (A9 : Option Addr) (c9 : Nat) (w : World) (h : Dsk lo w.heap.size w v d) (hq : (okD d && hasB d.dry.length at_) = true) (h0 : d.left = 0) :
    Calls Tryd.prog 39 #[v, .int .i64 at_, .slice A9 32 c9] w fun e w' => e = .returned (.tuple #[.agg #[.slice none 0 0, .slice none 0 0, .int .i64 0], .int .i64 11]) ∧ Below w.heap.size w w' := by
  have his : ∀ W, Below w.heap.size w W → Calls Tryd.prog 56 #[v, .int .i64 at_] W fun e w' => e = .returned (.bool true) ∧ Below W.heap.size W w' :=
    fun W hB => by have := refis_any lo v d at_ W ((h.below hB (Nat.le_refl _)).mono (Nat.le_refl _) hB.size); rwa [hq] at this
  obtain ⟨A, c, A', c', rfl⟩ := h.form
  rw [h0] at his ⊢
  have hdd := fun W => refdeed_dead (.slice A d.dry.length c) (.slice A' d.wet.length c') W
  replace his := hide his; replace hdd := hide hdd
  clear h hq h0
  go_enter Tryd.func39, Tryd.ntmps39
  go_wp2_with (first
    | (go_at_call 56; refine (unhide his _ (by (repeat (first | with_reducible exact Below.refl _ _ | with_reducible assumption | with_reducible refine Below.drew ?_ | with_reducible refine bl_alloc ?_ _ | with_reducible refine bl_call ?_ (by assumption) | (focus (with_reducible refine Below.setCell ?_ ?_ _; rotate_left; focus (first | omega | (simp <;> omega)))) | fail)))).mono ?_; rintro e w1 ⟨rfl, hb1⟩; have HB1 : Below w.heap.size w w1 := bl_call (by (repeat (first | with_reducible exact Below.refl _ _ | with_reducible assumption | with_reducible refine Below.drew ?_ | with_reducible refine bl_alloc ?_ _ | with_reducible refine bl_call ?_ (by assumption) | (focus (with_reducible refine Below.setCell ?_ ?_ _; rotate_left; focus (first | omega | (simp <;> omega)))) | fail))) hb1
       have kb1 := Blk.below (g := w.heap.size) (t := 31) (cs := #[.slice A d.dry.length c, .slice A' d.wet.length c', .int .i64 0]) (by (repeat (first | with_reducible assumption | (focus (with_reducible refine Blk.new ?_; focus (simp <;> fail))) | with_reducible refine Blk.set3 (a := .slice none 0 0) (b := .slice none 0 0) (c := .int .i64 0) ?_ | with_reducible refine Blk.alloc ?_ _ | with_reducible refine Blk.drew ?_ | (focus (with_reducible refine Blk.far ?_ ?_ _; rotate_left; focus (first | omega | (simp <;> omega)))) | (focus (with_reducible refine Blk.below ?_ hb1 ?_; rotate_left; focus (first | omega | (simp <;> omega)))) | fail))) hb1 (by simp <;> omega)
       have kr1 := Blk.below (g := w.heap.size + 1) (t := 31) (cs := #[.slice none 0 0, .slice none 0 0, .int .i64 0]) (by (repeat (first | with_reducible assumption | (focus (with_reducible refine Blk.new ?_; focus (simp <;> fail))) | with_reducible refine Blk.set3 (a := .slice none 0 0) (b := .slice none 0 0) (c := .int .i64 0) ?_ | with_reducible refine Blk.alloc ?_ _ | with_reducible refine Blk.drew ?_ | (focus (with_reducible refine Blk.far ?_ ?_ _; rotate_left; focus (first | omega | (simp <;> omega)))) | (focus (with_reducible refine Blk.below ?_ hb1 ?_; rotate_left; focus (first | omega | (simp <;> omega)))) | fail))) hb1 (by simp <;> omega)
       have k0 := kb1.cell 0; have k1 := kb1.cell 1; have k2 := kb1.cell 2
       simp at k0 k1 k2
       have z0 := kb1.lt
       replace HB1 := hide HB1; replace kb1 := hide kb1; replace kr1 := hide kr1; clear hb1)
    | (go_at_call 57; refine (unhide hdd _).mono ?_; rintro e w2 ⟨rfl, hb2⟩
       clear k0 k1 k2 z0
       have kb := (unhide kb1).below hb2 (unhide kb1).lt
       have kr := (unhide kr1).below hb2 (unhide kr1).lt
       have HB2 : Below w.heap.size w w2 := bl_call (unhide HB1) hb2
       have f0 := kb.frozen 0; have f1 := kb.frozen 1; have f2 := kb.frozen 2
       have k0 := kb.cell 0; have k1 := kb.cell 1; have k2 := kb.cell 2
       have e0 := kr.frozen 0; have e1 := kr.frozen 1; have e2 := kr.frozen 2
       have r0 := kr.cell 0; have r1 := kr.cell 1; have r2 := kr.cell 2
       simp at k0 k1 k2 r0 r1 r2
       have z0 := kb.lt; have z1 := kr.lt
       replace HB2 := hide HB2; replace kb := hide kb; replace kr := hide kr; clear hb2)
    | fail)
  have Kr2 := (((unhide kr).far (p := ⟨w.heap.size, 0, none⟩) (by simp) (.slice none 0 0)).far (p := ⟨w.heap.size, 1, none⟩) (by simp) (.slice none 0 0)).far (p := ⟨w.heap.size, 2, none⟩) (by simp) (.int .i64 0)
  refine ret_disk2 rfl (w.heap.size + 1) #[.slice none 0 0, .slice none 0 0, .int .i64 0] rfl (.int .i64 11) rfl rfl Kr2.set3 rfl ⟨rfl, ?_⟩
  exact ((((((unhide HB2).setCell (Nat.le_refl _) _).setCell (Nat.le_refl _) _).setCell (Nat.le_refl _) _).setCell (by simp) _).setCell (by simp) _).setCell (by simp) _
end Go.Proofs.YtommlgdolahfbaaDoor
namespace Go.Proofs.YtommlgdolahfbaaDoor
set_option maxRecDepth 100000
open Go.RowKit

theorem wet_short {d : Dk} (hp : ∀ (j : Nat) (q : Pg), d.wet[j]? = some q → 0 ≤ q.at_ ∧ q.at_ < ((d.dry.length / 32 : Nat) : Int) ∧ q.b.length = 32) : ∀ (j : Nat) (q : Pg), d.wet[j]? = some q → q.b.length ≤ 1000000 := fun j q hj => by have := (hp j q hj).2.2; omega

set_option maxRecDepth 100000 in
set_option maxHeartbeats 1000000 in
theorem refwrite_good (lo : Nat) (v : Value) (d : Dk) (at_ : Int) (A9 : Option Addr) (c9 : Nat) (b : List UInt8) (w : World) (h : Dsk lo w.heap.size w v d) (hb : Bs lo w.heap.size w (.slice A9 32 c9) b) (hbl : b.length = 32)
    (hok : okD d = true) (hhs : hasB d.dry.length at_ = true) (h0 : d.left ≠ 0) (hL : d.dry.length ≤ 1000000) (hW : d.wet.length ≤ 1000) :
    Calls Tryd.prog 39 #[v, .int .i64 at_, .slice A9 32 c9] w fun e w' => ∃ v', e = .returned (.tuple #[v', .int .i64 0]) ∧ Dsk w.heap.size w'.heap.size w' v' ⟨d.dry, wrPg d.wet at_ b, less d.left⟩ ∧ Below w.heap.size w w' := by
  obtain ⟨i0, hi0, iz0, iz1, iz2⟩ := info_parts info41
  obtain ⟨i5, hi5, jz0, jz1, jz2⟩ := info_parts info5
  have his : ∀ W, Below w.heap.size w W → Calls Tryd.prog 56 #[v, .int .i64 at_] W fun e w' => e = .returned (.bool true) ∧ Below W.heap.size W w' :=
    fun W hB => by have := refis_any lo v d at_ W ((h.below hB (Nat.le_refl _)).mono (Nat.le_refl _) hB.size); rwa [hok, hhs] at this
  obtain ⟨_, hge, _, hle, hr, hp⟩ := okD_parts hok
  have hcp := fun W (hB : Below w.heap.size w W) => refdeed_goes lo v d W ((h.below hB (Nat.le_refl _)).mono (Nat.le_refl _) hB.size) hle h0 hL hW (wet_short hp)
  obtain ⟨A1, c1, A, c, rfl⟩ := h.form
  clear h
  have hsb := fun W (hB : Below w.heap.size w W) => hb.src.2.below hB
  have hs1 : (b.map u8v).length = 32 * 1 := by simp [hbl]
  have hs2 := u8s_one b
  have hs3 : 0 + 32 ≤ maxLen := by simp only [maxLen]; omega
  have hs4 : (0 + 32) * 1 ≤ 140737488355328 := by omega
  obtain ⟨n, hn⟩ : ∃ n, n = d.wet.length := ⟨_, rfl⟩
  obtain ⟨X, hX⟩ : ∃ X, X = less d.left := ⟨_, rfl⟩
  obtain ⟨F, hF⟩ : ∃ F : Nat → List Pg, F = fun k => (d.wet.take k).filter (fun p => decide (p.at_ < at_)) := ⟨_, rfl⟩
  obtain ⟨H, hH⟩ : ∃ H : Nat → List Pg, H = fun k => F n ++ (⟨at_, b⟩ :: (d.wet.take k).filter (fun p => decide (at_ < p.at_))) := ⟨_, rfl⟩
  have F0 : F 0 = [] := by rw [hF]; rfl
  have Fs : ∀ k p, d.wet[k]? = some p → F (k + 1) = if p.at_ < at_ then F k ++ [p] else F k := fun k p hk => by
    obtain ⟨hlt, e⟩ := List.getElem?_eq_some_iff.1 hk
    rw [hF]
    simp only []
    rw [List.take_succ_eq_append_getElem hlt, List.filter_append, e]
    by_cases hh : p.at_ < at_ <;> simp [hh]
  have H0 : H 0 = F n ++ [⟨at_, b⟩] := by rw [hH]; rfl
  have Hs : ∀ k p, d.wet[k]? = some p → H (k + 1) = if at_ < p.at_ then H k ++ [p] else H k := fun k p hk => by
    obtain ⟨hlt, e⟩ := List.getElem?_eq_some_iff.1 hk
    rw [hH]
    simp only []
    rw [List.take_succ_eq_append_getElem hlt, List.filter_append, e]
    by_cases hh : at_ < p.at_ <;> simp [hh]
  have Hn : H n = wrPg d.wet at_ b := by
    rw [hH, hF, hn]
    simp only [List.take_length]
    rfl
  have Fl : ∀ k, (F k).length ≤ 1000 := fun k => by
    rw [hF]; refine Nat.le_trans (List.length_filter_le _ _) ?_; rw [List.length_take]; omega
  have Hl : ∀ k, (H k).length ≤ 2001 := fun k => by
    rw [hH]; have h1 := Fl n
    have h2 := Nat.le_trans (List.length_filter_le (fun p => decide (at_ < p.at_)) (d.wet.take k)) (by rw [List.length_take]; exact Nat.le_trans (Nat.min_le_right _ _) hW)
    simp only [List.length_append, List.length_cons]; omega
  rw [← hn] at his hcp hW ⊢
  rw [← hX] at hcp ⊢
  clear hF hH
  replace his := hide his; replace hcp := hide hcp; replace hr := hide hr; replace hp := hide hp; replace hn := hide hn; replace hX := hide hX; replace hsb := hide hsb; replace hs1 := hide hs1; replace hs2 := hide hs2; replace hs3 := hide hs3; replace hs4 := hide hs4
  replace hok := hide hok; replace hle := hide hle; replace hhs := hide hhs; replace hb := hide hb; replace hbl := hide hbl; replace F0 := hide F0; replace Fs := hide Fs; replace H0 := hide H0; replace Hs := hide Hs; replace Hn := hide Hn; replace Fl := hide Fl; replace Hl := hide Hl
  go_enter Tryd.func39, Tryd.ntmps39
  go_upto_region 7 with (first
    | (go_at_call 56; refine (unhide his _ (by (repeat (first | with_reducible exact Below.refl _ _ | with_reducible assumption | with_reducible refine Below.drew ?_ | with_reducible refine bl_alloc ?_ _ | with_reducible refine bl_call ?_ (by assumption) | (focus (with_reducible refine Below.setCell ?_ ?_ _; rotate_left; focus (first | omega | (simp <;> omega)))) | fail)))).mono ?_; rintro e w1 ⟨rfl, hb1⟩; have HB1 : Below w.heap.size w w1 := bl_call (by (repeat (first | with_reducible exact Below.refl _ _ | with_reducible assumption | with_reducible refine Below.drew ?_ | with_reducible refine bl_alloc ?_ _ | with_reducible refine bl_call ?_ (by assumption) | (focus (with_reducible refine Below.setCell ?_ ?_ _; rotate_left; focus (first | omega | (simp <;> omega)))) | fail))) hb1
       have kb1 := Blk.below (g := w.heap.size) (t := 31) (cs := #[.slice A1 d.dry.length c1, .slice A n c, .int .i64 d.left]) (by (repeat (first | with_reducible assumption | (focus (with_reducible refine Blk.new ?_; focus (simp <;> fail))) | with_reducible refine Blk.set3 (a := .slice none 0 0) (b := .slice none 0 0) (c := .int .i64 0) ?_ | with_reducible refine Blk.alloc ?_ _ | with_reducible refine Blk.drew ?_ | (focus (with_reducible refine Blk.far ?_ ?_ _; rotate_left; focus (first | omega | (simp <;> omega)))) | (focus (with_reducible refine Blk.below ?_ hb1 ?_; rotate_left; focus (first | omega | (simp <;> omega)))) | fail))) hb1 (by simp <;> omega)
       have kr1 := Blk.below (g := w.heap.size + 1) (t := 31) (cs := #[.slice none 0 0, .slice none 0 0, .int .i64 0]) (by (repeat (first | with_reducible assumption | (focus (with_reducible refine Blk.new ?_; focus (simp <;> fail))) | with_reducible refine Blk.set3 (a := .slice none 0 0) (b := .slice none 0 0) (c := .int .i64 0) ?_ | with_reducible refine Blk.alloc ?_ _ | with_reducible refine Blk.drew ?_ | (focus (with_reducible refine Blk.far ?_ ?_ _; rotate_left; focus (first | omega | (simp <;> omega)))) | (focus (with_reducible refine Blk.below ?_ hb1 ?_; rotate_left; focus (first | omega | (simp <;> omega)))) | fail))) hb1 (by simp)
       have k0 := kb1.cell 0; have k1 := kb1.cell 1; have k2 := kb1.cell 2
       simp at k0 k1 k2
       have z0 := kb1.lt
       replace HB1 := hide HB1; replace kb1 := hide kb1; replace kr1 := hide kr1; clear hb1)
    | (go_at_call 57; refine (unhide hcp _ (unhide HB1)).mono ?_; rintro e w2 ⟨A3, c3, Aw, cw, rfl, hco, hb2⟩
       clear k0 k1 k2 z0
       have kb := (unhide kb1).below hb2 (unhide kb1).lt
       have kr := (unhide kr1).below hb2 (unhide kr1).lt
       have s1 := (unhide kr1).lt
       have HB2 : Below w.heap.size w w2 := bl_call (unhide HB1) hb2
       have f0 := kb.frozen 0; have f1 := kb.frozen 1; have f2 := kb.frozen 2
       have k0 := kb.cell 0; have k1 := kb.cell 1; have k2 := kb.cell 2
       simp at k0 k1 k2
       have z0 := kb.lt; have z1 := kr.lt
       replace hco := hide hco; replace HB2 := hide HB2; replace kb := hide kb; replace kr := hide kr; replace s1 := hide s1; clear hb2)
    | fail)
  have Kb : Blk (((w2.setCell ⟨w.heap.size, 0, none⟩ (.slice A3 d.dry.length c3)).setCell ⟨w.heap.size, 1, none⟩ (.slice Aw n cw)).setCell ⟨w.heap.size, 2, none⟩ (.int .i64 X)) w.heap.size 31 #[.slice A3 d.dry.length c3, .slice Aw n cw, .int .i64 X] := (unhide kb).set3
  have Kr : Blk (((w2.setCell ⟨w.heap.size, 0, none⟩ (.slice A3 d.dry.length c3)).setCell ⟨w.heap.size, 1, none⟩ (.slice Aw n cw)).setCell ⟨w.heap.size, 2, none⟩ (.int .i64 X)) (w.heap.size + 1) 31 #[.slice none 0 0, .slice none 0 0, .int .i64 0] := (((unhide kr).far (by simp) _).far (by simp) _).far (by simp) _
  have Co := ((unhide hco).set3 (x := .slice A3 d.dry.length c3) (y := .slice Aw n cw) (z := .int .i64 X) (unhide kb) (by have := unhide s1; omega)).toDsk
  have ba := (((unhide HB2).setCell (p := ⟨w.heap.size, 0, none⟩) (Nat.le_refl _) (.slice A3 d.dry.length c3)).setCell (p := ⟨w.heap.size, 1, none⟩) (Nat.le_refl _) (.slice Aw n cw)).setCell (p := ⟨w.heap.size, 2, none⟩) (Nat.le_refl _) (.int .i64 X)
  have s1' := unhide s1
  clear f0 f1 f2 k0 k1 k2 z0 z1 hco HB2 kb kr kb1 kr1 s1 his hcp
  generalize ((w2.setCell ⟨w.heap.size, 0, none⟩ (.slice A3 d.dry.length c3)).setCell ⟨w.heap.size, 1, none⟩ (.slice Aw n cw)).setCell ⟨w.heap.size, 2, none⟩ (.int .i64 X) = wa at *
  obtain ⟨lo2, hlo2⟩ : ∃ lo2, lo2 = w1.heap.size + 2 := ⟨_, rfl⟩
  rw [← hlo2] at Co
  have hlw : w.heap.size + 1 < lo2 := by omega
  obtain ⟨vx, vy, e9, CoD, CoP⟩ := Co
  simp only [Value.agg.injEq, Array.mk.injEq, List.cons.injEq, and_true] at e9
  obtain ⟨e91, e92⟩ := e9
  rw [← e91] at CoD
  rw [← e92] at CoP
  clear e91 e92
  simp only [] at CoD CoP
  obtain ⟨H2, hH2⟩ : ∃ H2, H2 = wa.heap.size := ⟨_, rfl⟩
  rw [← hH2] at CoD CoP
  have hwH : w.heap.size ≤ H2 := by rw [hH2]; exact ba.size
  obtain ⟨A4, c4, e4, _, _, hpA, hpC⟩ := CoP
  rw [← unhide hn] at e4
  injection e4 with e41 e42 e43
  subst e41 e43
  clear e42
  have s0 := Kb.cell 0
  have s1 := Kb.cell 1
  simp at s0 s1
  have z0 := Kb.lt
  clear hlo2 s1'
  replace Kb := hide Kb; replace Kr := hide Kr; replace ba := hide ba; replace hpA := hide hpA; replace hpC := hide hpC; replace CoD := hide CoD; replace hlw := hide hlw; replace hwH := hide hwH; replace hH2 := hide hH2
  go_wp2_with fail
  go_loopw [9, 36] (fun v9 i wr => ∃ (k : Nat) (A5 : Option Addr) (c5 : Nat) (cs : List Value), k ≤ n ∧ i = .int .i64 k ∧ v9 = .slice A5 (F k).length c5 ∧ Hid (wr.ownsRow H2 56 2 (.slice A5 (F k).length c5) (F k).length cs) ∧ Hid (PgX (fun v l => Bs lo2 H2 wa v l) cs (F k)) ∧ Hid (Blk wr w.heap.size 31 #[.slice A3 d.dry.length c3, .slice Aw n cw, .int .i64 X]) ∧ Hid (Blk wr (w.heap.size + 1) 31 #[.slice none 0 0, .slice none 0 0, .int .i64 0]) ∧ Hid (Agree lo2 H2 wa wr) ∧ Hid (H2 ≤ wr.heap.size) ∧ Hid (Below w.heap.size w wr)) (fun _ i _ => n - (intOf i).toNat)
  case atStart =>
    have r0 := World.ownsRow_nil wa H2 56 2
    exact ⟨0, none, 0, [], Nat.zero_le _, rfl, by rw [unhide F0]; rfl, hide (by rw [unhide F0]; exact r0), hide (by rw [unhide F0]; exact PgX.nil _), Kb, Kr, hide (Agree.refl _ _ _), hide (by have := unhide hH2; omega), ba⟩
  case round =>
    clear Kb Kr ba s0 s1 z0
    obtain ⟨k, A5, c5, cs, hk, rfl, rfl, R, C, q2, q3, q5, q6, q4⟩ := hrel
    have g1 := (unhide q2).cell 1
    simp at g1
    have l2 := (unhide q2).lt
    by_cases hlt : k < n
    · have hlt1 : k < d.wet.length := by rw [← unhide hn]; exact hlt
      obtain ⟨bw, off, rfl, hb1', hb2'⟩ := (unhide hpA) (by omega)
      obtain ⟨cs', hcs, hcc, bv, rfl, hbv⟩ := (unhide hpC) bw off rfl k hlt1
      obtain ⟨p, hpe⟩ : ∃ p, d.wet[k] = p := ⟨_, rfl⟩
      have hpk : d.wet[k]? = some p := by rw [List.getElem?_eq_getElem hlt1, hpe]
      rw [hpe] at hcc hbv
      obtain ⟨pa, pb, pc⟩ := (unhide hp) k p hpk
      have ag := unhide q5
      have c0 := (World.cell?_of_block (a := ⟨bw, off + k * 2 + 0, none⟩) (ag bw hb1' hb2')).trans (hcc 0 (by simp))
      have c1' := (World.cell?_of_block (a := ⟨bw, off + k * 2 + 1, none⟩) (ag bw hb1' hb2')).trans (hcc 1 (by simp))
      obtain ⟨A2, c2, e, _⟩ := id hbv
      subst e
      simp only [List.getElem_cons_zero, List.getElem_cons_succ, Nat.add_zero] at c0 c1'
      rw [pc] at c1' hbv
      have h2r := unhide q6
      have bwr : bw < wr.heap.size := by omega
      have hFl := unhide Fl k
      have hFs := unhide Fs k p hpk
      have i1 : (0 : Int) ≤ (k : Int) := by omega
      have i3 : (k : Int) < (n : Int) := by omega
      have i4 : IntKind.i64.wrap ((k : Int) + 1) = (k : Int) + 1 := IntWalk.i64_in _ (by omega)
      obtain ⟨pl, pe⟩ : ∃ pl, pl = p := ⟨_, rfl⟩
      obtain ⟨pat, pbs⟩ := p
      simp only [] at c0 c1' hbv hFs pa pb pc hpk
      have hone : ∀ u ∈ [Value.int .i64 pat, .slice A2 32 c2], u.oneCell' = true := by intro u hu; simp at hu; rcases hu with rfl | rfl <;> rfl
      have hbA : Below wr.heap.size wr (wr.alloc (.cells #[.int .i64 pat, .slice A2 32 c2] 56)) := (Below.refl _ _).alloc (Nat.le_refl _) _
      have hbB : Below wr.heap.size wr ((wr.alloc (.cells #[.int .i64 pat, .slice A2 32 c2] 56)).alloc (.cells #[.int .i64 pat, .slice A2 32 c2] 56)) := bl_alloc hbA _
      clear hcc hcs ag pe pl
      replace hbv := hide hbv; replace hpk := hide hpk; replace hpe := hide hpe; replace hone := hide hone; replace hbA := hide hbA; replace hbB := hide hbB; replace hFs := hide hFs; replace hFl := hide hFl
      have lr := (unhide q3).lt
      by_cases hat : pat < at_
      · have hF1 : F (k + 1) = F k ++ [⟨pat, pbs⟩] := by rw [unhide hFs, if_pos hat]
        have hF2 : (F (k + 1)).length = (F k).length + 1 := by rw [hF1]; simp
        have tb : decide (pat < at_) = true := decide_eq_true hat
        replace hF1 := hide hF1; replace hF2 := hide hF2
        clear hFs hat
        have p1 := own_below (unhide R) (unhide hbB) (Nat.le_refl _)
        have p2 : SrcOk ((wr.alloc (.cells #[.int .i64 pat, .slice A2 32 c2] 56)).alloc (.cells #[.int .i64 pat, .slice A2 32 c2] 56)) (some ⟨wr.heap.size + 1, 0, none⟩) 1 [.int .i64 pat, .slice A2 32 c2] := SrcOk.blk (cur := [.int .i64 pat, .slice A2 32 c2]) (Blk.new (by simp)) fun j u hu => by simpa using hu
        have p4 : (F k).length + 1 ≤ maxLen := by simp only [maxLen]; have := unhide hFl; omega
        have p5 : ((F k).length + 1) * 32 ≤ 140737488355328 := by have := unhide hFl; omega
        have p6 : H2 ≤ ((wr.alloc (.cells #[.int .i64 pat, .slice A2 32 c2] 56)).alloc (.cells #[.int .i64 pat, .slice A2 32 c2] 56)).heap.size := by have := unhide q6; simp; omega
        replace p1 := hide p1; replace p2 := hide p2; replace p4 := hide p4; replace p5 := hide p5; replace p6 := hide p6
        clear lr bwr hb1' hb2' h2r
        go_wp2_with (first
          | (at_builtin
             refine wpList_app _ rfl (.tmp 44) (.tmp 46) 29 rfl H2 56 i0 _ 2 32 Tryd.underlying29 hi0 iz0 iz1 iz2 rfl (Nat.succ_pos _) _ (F k).length cs rfl (unhide p1) (some ⟨wr.heap.size + 1, 0, none⟩) 1 1 [.int .i64 pat, .slice A2 32 c2] rfl rfl (unhide p2) (unhide hone) (unhide p4) (unhide p5) (unhide p6) ?_
             intro v6 w6 ho6 hg6
             obtain ⟨A6, c6, rfl⟩ := ownsRow_form ho6
             obtain ⟨m1, m2, m3, m4, m5, m6⟩ := wrStep (unhide R) (unhide q2) (unhide q3) (unhide q5) (unhide q6) (unhide q4) (unhide hwH) (unhide hbB) hg6
             have hC6 := PgX.snoc (a := pat) (l := pbs) (unhide C) (unhide R).1 (unhide hbv)
             replace ho6 := hide ho6; replace m1 := hide m1; replace m2 := hide m2; replace m3 := hide m3; replace m4 := hide m4; replace m5 := hide m5; replace hC6 := hide hC6
             clear hg6 m6)
          | fail)
        clear i4 tb
        go_roundw
        case rel => exact ⟨k + 1, A6, c6, _, by omega, by go_num, by rw [unhide hF2], hide (by rw [unhide hF2]; exact unhide ho6), hide (by rw [unhide hF1]; exact unhide hC6), m1, m2, m3, m4, m5⟩
        case measure => simp [intOf]; omega
      · have hF1 : F (k + 1) = F k := by rw [unhide hFs, if_neg hat]
        have tb : decide (pat < at_) = false := decide_eq_false hat
        replace hF1 := hide hF1
        clear hFs hat
        have m2 := (unhide q2).below (unhide hbA) (unhide q2).lt
        have m3 := (unhide q3).below (unhide hbA) (unhide q3).lt
        have m5 : Agree lo2 H2 wa (wr.alloc (.cells #[.int .i64 pat, .slice A2 32 c2] 56)) := fun k h1 h2 => ((unhide hbA).block k (by have := unhide q6; omega)).trans (unhide q5 k h1 h2)
        have mR := own_below (unhide R) (unhide hbA) (Nat.le_refl _)
        have m4 := bl_call (unhide q4) (unhide hbA)
        replace m2 := hide m2; replace m3 := hide m3; replace m5 := hide m5; replace mR := hide mR; replace m4 := hide m4
        go_wp2_with fail
        clear i4 tb
        go_roundw
        case rel => exact ⟨k + 1, A5, c5, cs, by omega, by go_num, by rw [unhide hF1], hide (by rw [unhide hF1]; exact unhide mR), hide (by rw [unhide hF1]; exact unhide C), m2, m3, m5, hide (Nat.le_trans (unhide q6) (unhide hbA).size), m4⟩
        case measure => simp [intOf]; omega
    · obtain rfl : k = n := by omega
      have hz := unhide q6
      have b0 : Below wr.heap.size wr wr := Below.refl _ _
      replace b0 := hide b0
      have hFl := unhide Fl k
      have p4 : (F k).length + 1 ≤ maxLen := by simp only [maxLen]; omega
      have p5 : ((F k).length + 1) * 32 ≤ 140737488355328 := by omega
      replace p4 := hide p4; replace p5 := hide p5; replace hFl := hide hFl
      go_wp2_with (first
        | (at_builtin
           refine wpList_app _ rfl (.const (.slice none 0 0)) (.tmp 51) 28 rfl H2 5 i5 _ 1 1 Tryd.underlying28 hi5 jz0 jz1 jz2 rfl (Nat.succ_pos _) _ 0 [] rfl (World.ownsRow_nil _ _ _ _) A9 32 c9 (b.map u8v) rfl (unhide hs1) (unhide hsb _ (unhide q4)) (unhide hs2) (unhide hs3) (unhide hs4) hz ?_
           intro v5 w5 ho5 hg5
           rw [Nat.zero_add, List.nil_append] at ho5
           obtain ⟨Ab, cb, rfl⟩ := ownsRow_form ho5
           have b5 : Below wr.heap.size wr w5 := (Below.refl wr.heap.size wr).grown hg5 (Nat.le_refl _) (by intro k hk; cases hk)
           have R5 := own_below (unhide R) b5 (Nat.le_refl _)
           have n2 := (unhide q2).below b5 (unhide q2).lt
           have n3 := (unhide q3).below b5 (unhide q3).lt
           have n5 : Agree lo2 H2 wa w5 := fun k h1 h2 => (b5.block k (by omega)).trans (unhide q5 k h1 h2)
           have n6 : H2 ≤ w5.heap.size := Nat.le_trans hz b5.size
           have n4 := bl_call (unhide q4) b5
           have hone : ∀ u ∈ [Value.int .i64 at_, .slice Ab 32 cb], u.oneCell' = true := by intro u hu; simp at hu; rcases hu with rfl | rfl <;> rfl
           have hbA : Below w5.heap.size w5 (w5.alloc (.cells #[.int .i64 at_, .slice Ab 32 cb] 56)) := (Below.refl _ _).alloc (Nat.le_refl _) _
           have p1 := own_below R5 hbA (Nat.le_refl _)
           have p2 : SrcOk (w5.alloc (.cells #[.int .i64 at_, .slice Ab 32 cb] 56)) (some ⟨w5.heap.size, 0, none⟩) 1 [.int .i64 at_, .slice Ab 32 cb] := SrcOk.blk (cur := [.int .i64 at_, .slice Ab 32 cb]) (Blk.new (by simp)) fun j u hu => by simpa using hu
           have p6 : H2 ≤ (w5.alloc (.cells #[.int .i64 at_, .slice Ab 32 cb] 56)).heap.size := by simp; omega
           replace p1 := hide p1; replace p2 := hide p2; replace p6 := hide p6; replace hone := hide hone; replace hbA := hide hbA
           replace ho5 := hide ho5; replace R5 := hide R5; replace n2 := hide n2; replace n3 := hide n3; replace n4 := hide n4; replace n5 := hide n5; replace n6 := hide n6
           clear hg5 b5 hz)
        | (at_builtin
           refine wpList_app _ rfl (.tmp 49) (.tmp 54) 29 rfl H2 56 i0 _ 2 32 Tryd.underlying29 hi0 iz0 iz1 iz2 rfl (Nat.succ_pos _) _ (F k).length cs rfl (unhide p1) (some ⟨w5.heap.size, 0, none⟩) 1 1 [.int .i64 at_, .slice Ab 32 cb] rfl rfl (unhide p2) (unhide hone) (unhide p4) (unhide p5) (unhide p6) ?_
           intro v6 w6 ho6 hg6
           obtain ⟨A6, c6, rfl⟩ := ownsRow_form ho6
           obtain ⟨m1, m2, m3, m4, m5, m6⟩ := wrStep (unhide R5) (unhide n2) (unhide n3) (unhide n5) (unhide n6) (unhide n4) (unhide hwH) (unhide hbA) hg6
           have hC6 := PgX.snoc (a := at_) (l := b) ((unhide C).mono (Rd' := fun v l => (Bs lo2 H2 wa v l ∨ (v = .slice Ab 32 cb ∧ l = b))) (fun _ _ h => .inl h)) (unhide R5).1 (.inr ⟨rfl, rfl⟩)
           have m7 := m6 _ _ _ (unhide ho5)
           have x1 := m1.cell 1
           simp at x1
           have z0 := m1.lt
           replace m7 := hide m7; replace ho6 := hide ho6; replace m1 := hide m1; replace m2 := hide m2; replace m3 := hide m3; replace m4 := hide m4; replace m5 := hide m5; replace hC6 := hide hC6
           clear hg6 m6)
        | fail)
      have hH2' : (H 0).length = (F k).length + 1 := by rw [unhide H0]; simp
      have E0 := unhide H0
      replace hH2' := hide hH2'; replace E0 := hide E0
      clear R C q2 q3 q4 q5 q6 g1 l2 R5 n2 n3 n4 n5 n6 p1 p2 p6 ho5 hk hlt
      go_loopw [9, 59] (fun v9 i wr => ∃ (j : Nat) (A5 : Option Addr) (c5 : Nat) (cs : List Value), j ≤ k ∧ i = .int .i64 j ∧ v9 = .slice A5 (H j).length c5 ∧ Hid (wr.ownsRow H2 56 2 (.slice A5 (H j).length c5) (H j).length cs) ∧ Hid (PgX (fun v l => (Bs lo2 H2 wa v l ∨ (v = .slice Ab 32 cb ∧ l = b))) cs (H j)) ∧ Hid (Blk wr w.heap.size 31 #[.slice A3 d.dry.length c3, .slice Aw k cw, .int .i64 X]) ∧ Hid (Blk wr (w.heap.size + 1) 31 #[.slice none 0 0, .slice none 0 0, .int .i64 0]) ∧ Hid (wr.ownsRow H2 5 1 (.slice Ab 32 cb) 32 (b.map u8v)) ∧ Hid (Agree lo2 H2 wa wr) ∧ Hid (H2 ≤ wr.heap.size) ∧ Hid (Below w.heap.size w wr)) (fun _ i _ => k - (intOf i).toNat)
      case atStart => exact ⟨0, A6, c6, _, Nat.zero_le _, rfl, by rw [unhide hH2'], hide (by rw [unhide hH2']; exact unhide ho6), hide (by rw [unhide E0]; exact unhide hC6), m1, m2, m7, m3, m4, m5⟩
      case round =>
        clear m1 m2 m3 m4 m5 m7 ho6 hC6 x1 z0 E0 hH2'
        generalize k = n at *
        obtain ⟨k, A5, c5, cs, hk, rfl, rfl, R, C, q2, q3, q7, q5, q6, q4⟩ := hrel
        have g1 := (unhide q2).cell 1
        simp at g1
        have l2 := (unhide q2).lt
        by_cases hlt : k < n
        · have hlt1 : k < d.wet.length := by rw [← unhide hn]; exact hlt
          obtain ⟨bw, off, rfl, hb1', hb2'⟩ := (unhide hpA) (by omega)
          obtain ⟨cs', hcs, hcc, bv, rfl, hbv⟩ := (unhide hpC) bw off rfl k hlt1
          obtain ⟨p, hpe⟩ : ∃ p, d.wet[k] = p := ⟨_, rfl⟩
          have hpk : d.wet[k]? = some p := by rw [List.getElem?_eq_getElem hlt1, hpe]
          rw [hpe] at hcc hbv
          obtain ⟨pa, pb, pc⟩ := (unhide hp) k p hpk
          have ag := unhide q5
          have c0 := (World.cell?_of_block (a := ⟨bw, off + k * 2 + 0, none⟩) (ag bw hb1' hb2')).trans (hcc 0 (by simp))
          have c1' := (World.cell?_of_block (a := ⟨bw, off + k * 2 + 1, none⟩) (ag bw hb1' hb2')).trans (hcc 1 (by simp))
          obtain ⟨A2, c2, e, _⟩ := id hbv
          subst e
          simp only [List.getElem_cons_zero, List.getElem_cons_succ, Nat.add_zero] at c0 c1'
          rw [pc] at c1' hbv
          have h2r := unhide q6
          have bwr : bw < wr.heap.size := by omega
          have hFl := unhide Hl k
          have hFs := unhide Hs k p hpk
          have i1 : (0 : Int) ≤ (k : Int) := by omega
          have i3 : (k : Int) < (n : Int) := by omega
          have i4 : IntKind.i64.wrap ((k : Int) + 1) = (k : Int) + 1 := IntWalk.i64_in _ (by omega)
          obtain ⟨pl, pe⟩ : ∃ pl, pl = p := ⟨_, rfl⟩
          obtain ⟨pat, pbs⟩ := p
          simp only [] at c0 c1' hbv hFs pa pb pc hpk
          have hone : ∀ u ∈ [Value.int .i64 pat, .slice A2 32 c2], u.oneCell' = true := by intro u hu; simp at hu; rcases hu with rfl | rfl <;> rfl
          have hbA : Below wr.heap.size wr (wr.alloc (.cells #[.int .i64 pat, .slice A2 32 c2] 56)) := (Below.refl _ _).alloc (Nat.le_refl _) _
          have hbB : Below wr.heap.size wr ((wr.alloc (.cells #[.int .i64 pat, .slice A2 32 c2] 56)).alloc (.cells #[.int .i64 pat, .slice A2 32 c2] 56)) := bl_alloc hbA _
          clear hcc hcs ag pe pl
          replace hbv := hide hbv; replace hpk := hide hpk; replace hpe := hide hpe; replace hone := hide hone; replace hbA := hide hbA; replace hbB := hide hbB; replace hFs := hide hFs; replace hFl := hide hFl
          have lr := (unhide q3).lt
          by_cases hat : at_ < pat
          · have hF1 : H (k + 1) = H k ++ [⟨pat, pbs⟩] := by rw [unhide hFs, if_pos hat]
            have hF2 : (H (k + 1)).length = (H k).length + 1 := by rw [hF1]; simp
            have tb : decide (at_ < pat) = true := decide_eq_true hat
            replace hF1 := hide hF1; replace hF2 := hide hF2
            clear hFs hat
            have p1 := own_below (unhide R) (unhide hbB) (Nat.le_refl _)
            have p2 : SrcOk ((wr.alloc (.cells #[.int .i64 pat, .slice A2 32 c2] 56)).alloc (.cells #[.int .i64 pat, .slice A2 32 c2] 56)) (some ⟨wr.heap.size + 1, 0, none⟩) 1 [.int .i64 pat, .slice A2 32 c2] := SrcOk.blk (cur := [.int .i64 pat, .slice A2 32 c2]) (Blk.new (by simp)) fun j u hu => by simpa using hu
            have p4 : (H k).length + 1 ≤ maxLen := by simp only [maxLen]; have := unhide hFl; omega
            have p5 : ((H k).length + 1) * 32 ≤ 140737488355328 := by have := unhide hFl; omega
            have p6 : H2 ≤ ((wr.alloc (.cells #[.int .i64 pat, .slice A2 32 c2] 56)).alloc (.cells #[.int .i64 pat, .slice A2 32 c2] 56)).heap.size := by have := unhide q6; simp; omega
            replace p1 := hide p1; replace p2 := hide p2; replace p4 := hide p4; replace p5 := hide p5; replace p6 := hide p6
            clear lr bwr hb1' hb2' h2r
            go_wp2_with (first
              | (at_builtin
                 refine wpList_app _ rfl (.tmp 67) (.tmp 69) 29 rfl H2 56 i0 _ 2 32 Tryd.underlying29 hi0 iz0 iz1 iz2 rfl (Nat.succ_pos _) _ (H k).length cs rfl (unhide p1) (some ⟨wr.heap.size + 1, 0, none⟩) 1 1 [.int .i64 pat, .slice A2 32 c2] rfl rfl (unhide p2) (unhide hone) (unhide p4) (unhide p5) (unhide p6) ?_
                 intro v6 w6 ho6 hg6
                 obtain ⟨A6, c6, rfl⟩ := ownsRow_form ho6
                 obtain ⟨m1, m2, m3, m4, m5, m6⟩ := wrStep (unhide R) (unhide q2) (unhide q3) (unhide q5) (unhide q6) (unhide q4) (unhide hwH) (unhide hbB) hg6
                 have hC6 := PgX.snoc (a := pat) (l := pbs) (unhide C) (unhide R).1 (Or.inl (unhide hbv))
                 have m7 := m6 _ _ _ (unhide q7)
                 replace m7 := hide m7
                 replace ho6 := hide ho6; replace m1 := hide m1; replace m2 := hide m2; replace m3 := hide m3; replace m4 := hide m4; replace m5 := hide m5; replace hC6 := hide hC6
                 clear hg6 m6)
              | fail)
            clear i4 tb
            go_roundw
            case rel => exact ⟨k + 1, A6, c6, _, by omega, by go_num, by rw [unhide hF2], hide (by rw [unhide hF2]; exact unhide ho6), hide (by rw [unhide hF1]; exact unhide hC6), m1, m2, m7, m3, m4, m5⟩
            case measure => simp [intOf]; omega
          · have hF1 : H (k + 1) = H k := by rw [unhide hFs, if_neg hat]
            have tb : decide (at_ < pat) = false := decide_eq_false hat
            replace hF1 := hide hF1
            clear hFs hat
            have m2 := (unhide q2).below (unhide hbA) (unhide q2).lt
            have m3 := (unhide q3).below (unhide hbA) (unhide q3).lt
            have m5 : Agree lo2 H2 wa (wr.alloc (.cells #[.int .i64 pat, .slice A2 32 c2] 56)) := fun k h1 h2 => ((unhide hbA).block k (by have := unhide q6; omega)).trans (unhide q5 k h1 h2)
            have mR := own_below (unhide R) (unhide hbA) (Nat.le_refl _)
            have m7 := own_below (unhide q7) (unhide hbA) (Nat.le_refl _)
            have m4 := bl_call (unhide q4) (unhide hbA)
            replace m2 := hide m2; replace m3 := hide m3; replace m5 := hide m5; replace mR := hide mR; replace m4 := hide m4; replace m7 := hide m7
            go_wp2_with fail
            clear i4 tb
            go_roundw
            case rel => exact ⟨k + 1, A5, c5, cs, by omega, by go_num, by rw [unhide hF1], hide (by rw [unhide hF1]; exact unhide mR), hide (by rw [unhide hF1]; exact unhide C), m2, m3, m7, m5, hide (Nat.le_trans (unhide q6) (unhide hbA).size), m4⟩
            case measure => simp [intOf]; omega
        · obtain rfl : k = n := by omega
          have g0 := (unhide q2).cell 0; have g2 := (unhide q2).cell 2
          have f0 := (unhide q2).frozen 0; have f1 := (unhide q2).frozen 1; have f2 := (unhide q2).frozen 2
          have r0 := (unhide q3).cell 0; have r1 := (unhide q3).cell 1; have r2 := (unhide q3).cell 2
          have e0 := (unhide q3).frozen 0; have e1 := (unhide q3).frozen 1; have e2 := (unhide q3).frozen 2
          simp at g0 g2 r0 r1 r2
          have l3 := (unhide q3).lt
          go_wp2_with fail
          have K5 := (unhide q2).set 1 (.slice A5 (H k).length c5)
          have Kr2 := (unhide q3).far (p := ⟨w.heap.size, 1, none⟩) (by simp) (.slice A5 (H k).length c5)
          have hlw' := unhide hlw
          have hwH' := unhide hwH
          refine ret_disk2 rfl (w.heap.size + 1) #[.slice A3 d.dry.length c3, .slice A5 (H k).length c5, .int .i64 X] rfl (.int .i64 0) rfl rfl Kr2.set3 rfl ⟨_, rfl, ⟨_, _, rfl, ?_, ?_⟩, ?_⟩
          · have hA := ((((unhide q5).setCell (p := ⟨w.heap.size, 1, none⟩) (by show w.heap.size < lo2; omega) (.slice A5 (H k).length c5)).setCell (p := ⟨w.heap.size + 1, 0, none⟩) hlw' (.slice A3 d.dry.length c3)).setCell (p := ⟨w.heap.size + 1, 1, none⟩) hlw' (.slice A5 (H k).length c5)).setCell (p := ⟨w.heap.size + 1, 2, none⟩) hlw' (.int .i64 X)
            exact ((unhide CoD).keep hA).mono (by omega) (by have := unhide q6; simp; omega)
          · have hA := ((((unhide q5).setCell (p := ⟨w.heap.size, 1, none⟩) (by show w.heap.size < lo2; omega) (.slice A5 (H k).length c5)).setCell (p := ⟨w.heap.size + 1, 0, none⟩) hlw' (.slice A3 d.dry.length c3)).setCell (p := ⟨w.heap.size + 1, 1, none⟩) hlw' (.slice A5 (H k).length c5)).setCell (p := ⟨w.heap.size + 1, 2, none⟩) hlw' (.int .i64 X)
            have hO := own_set3 (x := .slice A3 d.dry.length c3) (y := .slice A5 (H k).length c5) (z := .int .i64 X) (own_far (unhide R) (unhide q2) (by decide) 1 (.slice A5 (H k).length c5)) Kr2 (by decide)
            have hO5 := own_set3 (x := .slice A3 d.dry.length c3) (y := .slice A5 (H k).length c5) (z := .int .i64 X) (own_far (unhide q7) (unhide q2) (by decide) 1 (.slice A5 (H k).length c5)) Kr2 (by decide)
            simp only []
            rw [← unhide Hn]
            refine Pgs.of_own (ownsRow_mono hO hwH') fun j p hj => ?_
            obtain ⟨bv, x1, x2, x3⟩ := unhide C j p hj
            refine ⟨bv, x1, x2, ?_⟩
            rcases x3 with x3 | ⟨rfl, x4⟩
            · exact (x3.keep hA).mono (by omega) (by have := unhide q6; simp; omega)
            · rw [x4]
              have hbl' := unhide hbl
              have := Bs.of_own (l := b) (by rw [hbl']; exact hO5)
              exact this.mono hwH' (Nat.le_refl _)
          · exact ((((unhide q4).setCell (Nat.le_refl _) _).setCell (by simp) _).setCell (by simp) _).setCell (by simp) _
end Go.Proofs.YtommlgdolahfbaaDoor
namespace Go.Proofs.YtommlgdolahfbaaDoor
set_option maxRecDepth 100000
open Go.RowKit

theorem refwrite_any (lo : Nat) (v bb : Value) (d : Dk) (at_ : Int) (b : List UInt8) (w : World) (h : Dsk lo w.heap.size w v d) (hb : Bs lo w.heap.size w bb b) (hL : d.dry.length ≤ 1000000) (hW : d.wet.length ≤ 1000) :
    Calls Tryd.prog 39 #[v, .int .i64 at_, bb] w fun e w' => ∃ v' E, e = .returned (.tuple #[v', .int .i64 E]) ∧ Dsk w.heap.size w'.heap.size w' v' (wrD d at_ b).1 ∧ E = (wrD d at_ b).2 ∧ Below w.heap.size w w' := by
  have hb' := hb
  obtain ⟨A, c, rfl, x1, x2, _⟩ := hb'
  cases hq : wrB d at_ b.length
  · refine (refwrite_bad lo v d at_ A b.length c w h (by omega) hq).mono ?_
    rintro e w' ⟨rfl, hb1⟩
    have : wrD d at_ b = (noDk, 1) := by simp [wrD, hq]
    exact ⟨_, _, rfl, by rw [this]; exact noDk_dsk _ _ _, by rw [this], hb1⟩
  · have hq' := hq
    unfold wrB at hq'
    simp only [Bool.and_eq_true, decide_eq_true_eq] at hq'
    obtain ⟨⟨h1, h2⟩, h3⟩ := hq'
    rw [h3] at hb ⊢
    by_cases h0 : d.left = 0
    · refine (refwrite_dead lo v d at_ A c w h (by rw [h1, h2]; rfl) h0).mono ?_
      rintro e w' ⟨rfl, hb1⟩
      have : wrD d at_ b = (noDk, 11) := by simp [wrD, hq, h0]
      exact ⟨_, _, rfl, by rw [this]; exact noDk_dsk _ _ _, by rw [this], hb1⟩
    · refine (refwrite_good lo v d at_ A c b w h hb h3 h1 h2 h0 hL hW).mono ?_
      rintro e w' ⟨v', rfl, hd, hb1⟩
      have : wrD d at_ b = (⟨d.dry, wrPg d.wet at_ b, less d.left⟩, 0) := by simp [wrD, hq, h0]
      exact ⟨_, _, rfl, by rw [this]; exact hd, by rw [this], hb1⟩
end Go.Proofs.YtommlgdolahfbaaDoor
