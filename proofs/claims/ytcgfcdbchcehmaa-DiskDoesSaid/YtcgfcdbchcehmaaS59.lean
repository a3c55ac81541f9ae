import Derived.Test.YtcgfcdbchcehmaaS58
namespace Go.Proofs.Ytcgfcdbchcehmaa
open Go.RowKit

/-- A disk's dry bytes lie in a block that may be written. -/
def DryL (base : Nat) (w : World) (x : Value) : Prop := ∀ g o n c, x = .slice (some ⟨g, o, none⟩) n c → base ≤ g ∧ ∃ cs : Array Value, Blk w g 5 cs
theorem DryL.of {base : Nat} {w : World} {g n c : Nat} {cs : Array Value} (h : Blk w g 5 cs) (hb : base ≤ g) : DryL base w (.slice (some ⟨g, 0, none⟩) n c) := by
  intro g' o' n' c' e
  injection e with e1 e2 e3
  injection e1 with e1
  injection e1 with e1
  subst e1
  exact ⟨hb, _, h⟩
theorem DryL.nil {base : Nat} {w : World} : DryL base w (.slice none 0 0) := by intro g o n c e; cases e
theorem DryL.keep {base : Nat} {w w' : World} {x : Value} (h : DryL base w x) (ha : Agree base w.heap.size w w') : DryL base w' x := fun g o n c e => by
  obtain ⟨h1, cs, h2⟩ := h g o n c e
  exact ⟨h1, cs, (ha g h1 h2.lt).trans h2⟩
theorem DryL.mono {base base' : Nat} {w : World} {x : Value} (h : DryL base w x) (hb : base' ≤ base) : DryL base' w x := fun g o n c e => by
  obtain ⟨h1, cs, h2⟩ := h g o n c e
  exact ⟨Nat.le_trans hb h1, cs, h2⟩

/-- Cells that are octets, in blocks from 'M' on and below 'H' that may be written. -/
def U8x (w : World) (M H : Nat) (A : Option Addr) (L : Nat) : Prop := ∀ i, i < L → ∃ g o z, ∃ cs : Array Value, A = some ⟨g, o, none⟩ ∧ M ≤ g ∧ g < H ∧ Blk w g 5 cs ∧ cs[o + i]? = some (.int .u8 z)
theorem U8x.keep {w w' : World} {M H : Nat} {A : Option Addr} {L : Nat} (h : U8x w M H A L) (ha : Agree M H w w') : U8x w' M H A L := fun i hi => by
  obtain ⟨g, o, z, cs, e, h1, h2, h3, h4⟩ := h i hi
  exact ⟨g, o, z, cs, e, h1, h2, (ha g h1 h2).trans h3, h4⟩
theorem U8x.put {w : World} {M H g o L : Nat} {cs : Array Value} (h : U8x w M H (some ⟨g, o, none⟩) L) (hk : Blk w g 5 cs) (j : Nat) (z : Int) : U8x (w.setCell ⟨g, o + j, none⟩ (.int .u8 z)) M H (some ⟨g, o, none⟩) L := fun i hi => by
  obtain ⟨g', o', z', cs', e, hM, hH, hk', hc⟩ := h i hi
  injection e with e
  injection e with e1 e2
  subst e1 e2
  have := hk.uniq hk'
  subst this
  by_cases hij : o + j = o + i
  · refine ⟨g, o, z, _, rfl, hM, hH, hk.set (o + j) _, ?_⟩
    have hlt : o + i < cs.size := (Array.getElem?_eq_some_iff.1 hc).1
    rw [hij, Array.getElem?_setIfInBounds_self_of_lt hlt]
  · refine ⟨g, o, z', _, rfl, hM, hH, hk.set (o + j) _, ?_⟩
    rw [Array.getElem?_setIfInBounds_ne hij]; exact hc
theorem U8x.of_bs {w : World} {M H n c : Nat} {A : Option Addr} {l : List UInt8} (h : Bs M H w (.slice A n c) l) (hn : n = l.length) (hd : DryL M w (.slice A n c)) : U8x w M H A n := by
  intro i hi
  obtain ⟨A', c', e, _, _, h3⟩ := h
  injection e with e1 e2 e3
  subst e1
  obtain ⟨b, off, rfl, h1, h2, hc⟩ := h3 (by omega)
  obtain ⟨_, cs, hk⟩ := hd b off _ _ rfl
  have := hc i (by omega)
  rw [hk.cell] at this
  exact ⟨b, off, _, cs, rfl, h1, h2, hk, this⟩
theorem U8x.of_own {w : World} {M n c : Nat} {A : Option Addr} {l : List UInt8} (h : w.ownsRow M 5 1 (.slice A n c) n (l.map u8v)) (hn : n = l.length) : U8x w M w.heap.size A n := by
  subst hn
  refine U8x.of_bs (l := l) (Bs.of_own h) rfl fun g o n' c' e => ?_
  rcases h.2 with ⟨e1, _⟩ | ⟨g', cap, cur, e1, hb, hh, _⟩
  · rw [e1] at e; cases e
  · rw [e1] at e
    injection e with e
    injection e with e
    injection e with e
    subst e
    exact ⟨hb, _, hh⟩

/-- Pages in a block that may be read, each one's first octet in a block that may be written. -/
def W8x (w : World) (M H : Nat) (A : Option Addr) (L : Nat) : Prop := ∀ i, i < L → ∃ gw ow ga oa n c z, ∃ ws cs : Array Value, A = some ⟨gw, ow, none⟩ ∧ M ≤ gw ∧ gw < H ∧ M ≤ ga ∧ ga < H ∧ Blk w gw 41 ws ∧
  ws[ow + i * 2 + 1]? = some (.slice (some ⟨ga, oa, none⟩) n c) ∧ 0 < n ∧ Blk w ga 5 cs ∧ cs[oa]? = some (.int .u8 z)
theorem W8x.keep {w w' : World} {M H : Nat} {A : Option Addr} {L : Nat} (h : W8x w M H A L) (ha : Agree M H w w') : W8x w' M H A L := fun i hi => by
  obtain ⟨gw, ow, ga, oa, n, c, z, ws, cs, e, h1, h2, h3, h4, h5, h6, h7, h8, h9⟩ := h i hi
  exact ⟨gw, ow, ga, oa, n, c, z, ws, cs, e, h1, h2, h3, h4, (ha gw h1 h2).trans h5, h6, h7, (ha ga h3 h4).trans h8, h9⟩
theorem W8x.mono {w : World} {M H M' H' : Nat} {A : Option Addr} {L : Nat} (h : W8x w M H A L) (h1 : M' ≤ M) (h2 : H ≤ H') : W8x w M' H' A L := fun i hi => by
  obtain ⟨gw, ow, ga, oa, n, c, z, ws, cs, e, a1, a2, a3, a4, a5⟩ := h i hi
  exact ⟨gw, ow, ga, oa, n, c, z, ws, cs, e, by omega, by omega, by omega, by omega, a5⟩
theorem W8x.put {w : World} {M H g o L : Nat} {A : Option Addr} {cs : Array Value} (h : W8x w M H A L) (hk : Blk w g 5 cs) (z : Int) : W8x (w.setCell ⟨g, o, none⟩ (.int .u8 z)) M H A L := fun i hi => by
  obtain ⟨gw, ow, ga, oa, n, c, z', ws, cs', e, h1, h2, h3, h4, h5, h6, h7, h8, h9⟩ := h i hi
  have h5' := h5.far (p := ⟨g, o, none⟩) (h5.ne_ hk (by decide)) (.int .u8 z)
  by_cases hg : g = ga
  · subst hg
    have := hk.uniq h8
    subst this
    by_cases hij : o = oa
    · subst hij
      refine ⟨gw, ow, g, o, n, c, z, ws, _, e, h1, h2, h3, h4, h5', h6, h7, hk.set o _, ?_⟩
      have hlt : o < cs.size := (Array.getElem?_eq_some_iff.1 h9).1
      rw [Array.getElem?_setIfInBounds_self_of_lt hlt]
    · refine ⟨gw, ow, g, oa, n, c, z', ws, _, e, h1, h2, h3, h4, h5', h6, h7, hk.set o _, ?_⟩
      rw [Array.getElem?_setIfInBounds_ne hij]; exact h9
  · exact ⟨gw, ow, ga, oa, n, c, z', ws, cs', e, h1, h2, h3, h4, h5', h6, h7, h8.far (p := ⟨g, o, none⟩) (Ne.symm hg) _, h9⟩
theorem W8x.of_clone {w : World} {v : Value} {d : Dk} {base : Nat} (h : CloneOut w v d base) (h32 : ∀ (j : Nat) (q : Pg), d.wet[j]? = some q → q.b.length = 32) {x l : Value} {A : Option Addr} {n c : Nat} (e : v = .agg #[x, .slice A n c, l]) : W8x w base w.heap.size A n := by
  obtain ⟨A', c', gw, ga, ws, bs, e', h1, h2, h3, h4, h5, h6, h7, h8, h9, _⟩ := h
  rw [e'] at e
  simp only [Value.agg.injEq, Array.mk.injEq, List.cons.injEq, and_true] at e
  obtain ⟨e1, e2, e3⟩ := e
  injection e2 with e21 e22 e23
  subst e21 e22
  intro i hi
  have hp := List.getElem?_eq_getElem hi
  obtain ⟨p0, p1⟩ := h6 i _ hp hi
  have hl := h32 i _ hp
  have hb := h7 i _ hp hi 0 _ (List.getElem?_eq_getElem (by omega))
  exact ⟨gw, 0, ga, i * 32, 32, 32, _, _, _, rfl, Nat.le_of_lt h8, h2.lt, Nat.le_of_lt h9, h4.lt, h2, by simpa using p1, by omega, h4, by simpa [u8v] using hb⟩

set_option maxHeartbeats 2000000 in
theorem read_good2 (lo : Nat) (v : Value) (d : Dk) (at_ : Int) (w : World) (h : Dsk lo w.heap.size w v d) (hok : okD d = true) (hhs : hasB d.dry.length at_ = true) (hL : d.dry.length ≤ 1000000) (hW : d.wet.length ≤ 1000) :
    Calls Try.prog 14 #[v, .int .i64 at_] w fun e w' => ∃ v', e = .returned (.tuple #[v', .int .i64 0]) ∧ w'.ownsRow w.heap.size 5 1 v' (sectorOf d at_).length ((sectorOf d at_).map u8v) ∧ Below w.heap.size w w' := by
  have hck : ∀ W, Below w.heap.size w W → Calls Try.prog 24 #[v] W fun e w' => e = .returned (.int .i64 (badE true)) ∧ Below W.heap.size W w' :=
    fun W hB => by have := check_any lo v d W ((h.below hB (Nat.le_refl _)).mono (Nat.le_refl _) hB.size); rwa [hok] at this
  obtain ⟨_, hge, _, _, hr, hp⟩ := okD_parts hok
  obtain ⟨va, vb, rfl, ha, hb⟩ := h
  have hfd : ∀ W, Below w.heap.size w W → Calls Try.prog 33 #[vb, .int .i64 at_] W fun e w' => ∃ i : Nat, e = .returned (.tuple #[.int .i64 i, .bool (isAt d.wet at_ i)]) ∧ Place d.wet at_ i ∧ Below W.heap.size W w' :=
    fun W hB => find_any lo vb d.wet at_ W ((hb.below hB (Nat.le_refl _)).mono (Nat.le_refl _) hB.size) hr (by omega)
  have hcl : ∀ W x l, Bs lo w.heap.size w x l → Below w.heap.size w W → l.length ≤ 1000000 → Calls Try.prog 35 #[x] W fun e w' => ∃ A' c', e = .returned (.slice A' l.length c') ∧ w'.ownsRow W.heap.size 5 1 (.slice A' l.length c') l.length (l.map u8v) ∧ Below W.heap.size W w' :=
    fun W x l hx hB hl => bclone lo x l W ((hx.below hB (Nat.le_refl _)).mono (Nat.le_refl _) hB.size) hl
  obtain ⟨A1, c1, rfl, hl1, hl2, hl3⟩ := ha
  obtain ⟨b1, o1, rfl, hb1, hb2, hc1⟩ := hl3 (by omega)
  obtain ⟨A, c, rfl, hlc, hc, hA, hcell⟩ := hb
  have hhs' := fun W => has_any (some ⟨b1, o1, none⟩) d.dry.length c1 (.slice A d.wet.length c) (.int .i64 d.left) at_ W (by omega)
  rw [hhs] at hhs'
  simp only [hasB, decide_eq_true_eq] at hhs
  obtain ⟨a0, a1⟩ := hhs
  have hsec : Bs lo w.heap.size w (.slice (some ⟨b1, o1 + at_.toNat * 32, none⟩) 32 32) ((d.dry.drop (at_.toNat * 32)).take 32) := by
    have hl : ((d.dry.drop (at_.toNat * 32)).take 32).length = 32 := by rw [List.length_take, List.length_drop]; omega
    refine ⟨_, 32, by rw [hl], by omega, by omega, fun _ => ⟨b1, _, rfl, hb1, hb2, fun i hi => ?_⟩⟩
    rw [hl] at hi
    rw [List.getElem_take, List.getElem_drop, Nat.add_assoc]
    exact hc1 _ _
  have hsl : ((d.dry.drop (at_.toNat * 32)).take 32).length = 32 := by rw [List.length_take, List.length_drop]; omega
  obtain ⟨sec, hsd⟩ : ∃ s, s = (d.dry.drop (at_.toNat * 32)).take 32 := ⟨_, rfl⟩
  rw [← hsd] at hsec hsl
  replace hsd := hide hsd
  have hk : (at_.toNat + 1) * 32 ≤ c1 := by omega
  have hsc := fun W => by
    have := sector_any b1 o1 d.dry.length c1 at_.toNat W hk hl2
    rw [Int.toNat_of_nonneg a0] at this
    exact this
  replace hck := hide hck; replace hfd := hide hfd; replace hcl := hide hcl; replace hhs' := hide hhs'; replace hsec := hide hsec; replace hsl := hide hsl; replace hsc := hide hsc; replace hr := hide hr; replace hp := hide hp; replace hA := hide hA; replace hcell := hide hcell
  clear hc1 hl3 hok
  have q2 : (badE true != 0) = false := rfl
  go_enter Try.func14, Try.ntmps14
  go_wp2_with (first
    | (go_at_call 24; refine (unhide hck _ (by (repeat (first | with_reducible exact Below.refl _ _ | with_reducible assumption | with_reducible refine Below.drew ?_ | with_reducible refine bl_alloc ?_ _ | with_reducible refine bl_call ?_ (by assumption) | (focus (with_reducible refine Below.setCell ?_ ?_ _; rotate_left; focus (first | omega | (simp <;> omega)))) | fail)))).mono ?_; rintro e w1 ⟨rfl, hb1⟩; have HB1 : Below w.heap.size w w1 := bl_call (by (repeat (first | with_reducible exact Below.refl _ _ | with_reducible assumption | with_reducible refine Below.drew ?_ | with_reducible refine bl_alloc ?_ _ | with_reducible refine bl_call ?_ (by assumption) | (focus (with_reducible refine Below.setCell ?_ ?_ _; rotate_left; focus (first | omega | (simp <;> omega)))) | fail))) hb1
       have kb := hide (Blk.below (g := w.heap.size) (t := 25) (cs := #[.slice (some ⟨b1, o1, none⟩) d.dry.length c1, .slice A d.wet.length c, .int .i64 d.left]) (Blk.new rfl) hb1 (by simp)); (obtain ⟨hc1, hf1⟩ := bcell hb1; have hz1 := hb1.size; (try have y0 : w.heap.size < w1.heap.size := (by (simp at hz1; omega))); (try have y1 : w.heap.size + 1 < w1.heap.size := (by (simp at hz1; omega))); (try have y2 : w.heap.size + 2 < w1.heap.size := (by (simp at hz1; omega))); (try have y3 : w.heap.size + 3 < w1.heap.size := (by (simp at hz1; omega))); clear hz1))
    | (go_at_call 29; refine (unhide hhs' _).mono ?_; rintro e w2 ⟨rfl, hb2⟩; obtain ⟨hc2, hf2⟩ := bcell hb2; have HB2 : Below w.heap.size w w2 := bl_call HB1 hb2; replace kb := hide ((unhide kb).below hb2 y0)
       have e0 : w2.cell? ⟨w.heap.size, 0, none⟩ = some (.slice (some ⟨b1, o1, none⟩) d.dry.length c1) := ((unhide kb).cell 0).trans rfl
       have e1 : w2.cell? ⟨w.heap.size, 1, none⟩ = some (.slice A d.wet.length c) := ((unhide kb).cell 1).trans rfl)
    | (go_at_call 33; refine (unhide hfd _ HB2).mono ?_; rintro e w3 ⟨i, rfl, hpl, hb3⟩; have HB3 : Below w.heap.size w w3 := bl_call HB2 hb3; replace kb := hide ((unhide kb).below hb3 (unhide kb).lt); replace hpl := hide hpl
       have t0 : w3.cell? ⟨w.heap.size, 0, none⟩ = some (.slice (some ⟨b1, o1, none⟩) d.dry.length c1) := ((unhide kb).cell 0).trans rfl
       have t1 : w3.cell? ⟨w.heap.size, 1, none⟩ = some (.slice A d.wet.length c) := ((unhide kb).cell 1).trans rfl
       have hpg : isAt d.wet at_ i = false ∨ (isAt d.wet at_ i = true ∧ ∃ (bp op : Nat) (px : Value), A = some ⟨bp, op, none⟩ ∧ i < d.wet.length ∧ w3.cell? ⟨bp, op + i * 2 + 1, none⟩ = some px ∧ Bs lo w.heap.size w px (sectorOf d at_) ∧ (sectorOf d at_).length = 32) := (by
         cases hat : isAt d.wet at_ i
         · exact .inl rfl
         · obtain ⟨p, hpi, hfp⟩ := find_at (unhide hpl) hat
           obtain ⟨hin, hpe⟩ := List.getElem?_eq_some_iff.1 hpi
           obtain ⟨bp, op, rfl, _, hblt⟩ := (unhide hA) (by omega)
           obtain ⟨cs, hcs, hcc, px, rfl, hpx⟩ := (unhide hcell) bp op rfl i hin
           have hso : sectorOf d at_ = p.b := by unfold sectorOf; rw [hfp]
           rw [hso]
           rw [hpe] at hpx hcc
           exact .inr ⟨rfl, bp, op, px, rfl, hin, (HB3.cell (p := ⟨bp, op + i * 2 + 1, none⟩) hblt).trans (hcc 1 (by simp)), hpx, ((unhide hp) i p hpi).2.2⟩)
       rcases hpg with hat | ⟨hat, bp, op, px, rfl, hin, hcx, hpx, hln⟩
       rotate_left
       have i1 : (0 : Int) ≤ (i : Int) := (by omega)
       have i2 : (i : Int) < (d.wet.length : Int) := (by omega)
       replace hpx := hide hpx; replace hln := hide hln)
    | (go_at_call 38; refine (unhide hsc _).mono ?_; rintro e w4 ⟨rfl, rfl⟩)
    | fail)
  · have hcc := (unhide hcl) w3 _ _ (unhide hpx) HB3 (by rw [unhide hln]; omega)
    refine hcc.mono ?_
    rintro e w5 ⟨A5, c5, rfl, ho5, hb5⟩
    replace ho5 := hide ho5
    clear hcc
    go_wp2_with fail
    go_ret2
    exact ⟨_, rfl, ownsRow_mono (unhide ho5) HB3.size, by (repeat (first | with_reducible exact Below.refl _ _ | with_reducible assumption | with_reducible refine Below.drew ?_ | with_reducible refine bl_alloc ?_ _ | with_reducible refine bl_call ?_ (by assumption) | (focus (with_reducible refine Below.setCell ?_ ?_ _; rotate_left; focus (first | omega | (simp <;> omega)))) | fail))⟩
  · have hso : sectorOf d at_ = sec := by unfold sectorOf; rw [find_not (unhide hpl) (unhide hr) hat, unhide hsd]
    replace hso := hide hso; replace hat := hide hat
    have hcc := (unhide hcl) w3 _ _ (unhide hsec) HB3 (by rw [unhide hsl]; omega)
    refine hcc.mono ?_
    rintro e w5 ⟨A5, c5, rfl, ho5, hb5⟩
    replace ho5 := hide ho5
    clear hcc
    go_wp2_with fail
    go_ret2
    exact ⟨_, rfl, by rw [unhide hso]; exact ownsRow_mono (unhide ho5) HB3.size, by (repeat (first | with_reducible exact Below.refl _ _ | with_reducible assumption | with_reducible refine Below.drew ?_ | with_reducible refine bl_alloc ?_ _ | with_reducible refine bl_call ?_ (by assumption) | (focus (with_reducible refine Below.setCell ?_ ?_ _; rotate_left; focus (first | omega | (simp <;> omega)))) | fail))⟩

theorem read_own (lo : Nat) (v : Value) (d : Dk) (at_ : Int) (w : World) (h : Dsk lo w.heap.size w v d) (hL : d.dry.length ≤ 1000000) (hW : d.wet.length ≤ 1000) :
    Calls Try.prog 14 #[v, .int .i64 at_] w fun e w' => ∃ A c, e = .returned (.tuple #[.slice A (rdD d at_).1.length c, .int .i64 (rdD d at_).2]) ∧ Bs w.heap.size w'.heap.size w' (.slice A (rdD d at_).1.length c) (rdD d at_).1 ∧ U8x w' w.heap.size w'.heap.size A (rdD d at_).1.length ∧ Below w.heap.size w w' := by
  cases hq : okD d && hasB d.dry.length at_
  · refine (read_bad lo v d at_ w h hq).mono ?_
    rintro e w' ⟨rfl, hb⟩
    have : rdD d at_ = ([], 1) := by simp [rdD, hq]
    rw [this]
    exact ⟨_, _, rfl, ⟨none, 0, rfl, by simp, by omega, fun h0 => by simp at h0⟩, fun i hi => by simp at hi, hb⟩
  · have h' := hq
    rw [Bool.and_eq_true] at h'
    refine (read_good2 lo v d at_ w h h'.1 h'.2 hL hW).mono ?_
    rintro e w' ⟨v', rfl, hx, hb⟩
    obtain ⟨A, c, rfl⟩ := ownsRow_form hx
    have : rdD d at_ = (sectorOf d at_, 0) := by simp [rdD, hq]
    rw [this]
    exact ⟨_, _, rfl, Bs.of_own hx, U8x.of_own hx rfl, hb⟩

set_option maxHeartbeats 8000000 in
theorem sync1_any2 (lo gd : Nat) (va vb : Value) (d : Dk) (w : World) (h : Dsk lo w.heap.size w (.agg #[va, vb, .int .i64 d.left]) d) (hd : Blk w gd 25 #[va, vb, .int .i64 d.left])
    (hq : okD d = true) (hL : d.dry.length ≤ 1000000) (hW : d.wet.length ≤ 1000) :
    Calls Try.prog 39 #[.pointer (some ⟨gd, 0, none⟩)] w fun e w' => ∃ x y l, e = .returned (.agg #[x, y, l]) ∧ Dsk w.heap.size w'.heap.size w' (.agg #[x, y, l]) ⟨syAt d.dry d.wet d.wet.length, [], -1⟩ ∧ DryL w.heap.size w' x ∧ Below w.heap.size w w' := by
  obtain ⟨_, hge, _, _, hr, hp⟩ := okD_parts hq
  obtain ⟨va', vb', e, ha, hb⟩ := h
  simp only [Value.agg.injEq, Array.mk.injEq, List.cons.injEq, and_true] at e
  obtain ⟨rfl, rfl⟩ := e
  have hdr := fun W hB => dried_any lo va vb (.int .i64 d.left) d.dry W (((ha.below (B := w.heap.size) hB (Nat.le_refl _)).mono (Nat.le_refl _) (Below.size hB)) : Bs lo W.heap.size W va d.dry) hL
  obtain ⟨A1, c1, rfl, _⟩ := ha
  obtain ⟨A, c, rfl, hlc, hc, hA, hcell⟩ := hb
  have g0 := hd.cell 0; have g1 := hd.cell 1; have g2 := hd.cell 2
  simp at g0 g1 g2
  have lgd := hd.lt
  replace hdr := hide hdr; replace hA := hide hA; replace hcell := hide hcell; replace hr := hide hr; replace hp := hide hp; replace hq := hide hq; replace hd := hide hd
  go_enter Try.func39, Try.ntmps39
  go_wp2_with (first
    | (go_at_call 40; refine (unhide hdr _ (by (repeat (first | with_reducible exact Below.refl _ _ | with_reducible assumption | with_reducible refine Below.drew ?_ | with_reducible refine bl_alloc ?_ _ | with_reducible refine bl_call ?_ (by assumption) | (focus (with_reducible refine Below.setCell ?_ ?_ _; rotate_left; focus (first | omega | (simp <;> omega)))) | fail)))).mono ?_; rintro e w1 ⟨A', c', rfl, ho, hb1⟩; have HB1 : Below w.heap.size w w1 := bl_call (by (repeat (first | with_reducible exact Below.refl _ _ | with_reducible assumption | with_reducible refine Below.drew ?_ | with_reducible refine bl_alloc ?_ _ | with_reducible refine bl_call ?_ (by assumption) | (focus (with_reducible refine Below.setCell ?_ ?_ _; rotate_left; focus (first | omega | (simp <;> omega)))) | fail))) hb1
       have kr := hide (Blk.below (g := w.heap.size) (t := 25) (cs := #[.slice none 0 0, .slice none 0 0, .int .i64 0]) (by (repeat (first | with_reducible assumption | (focus (with_reducible refine Blk.new ?_; focus (simp <;> fail))) | with_reducible refine Blk.set3 (a := .slice none 0 0) (b := .slice none 0 0) (c := .int .i64 0) ?_ | with_reducible refine Blk.alloc ?_ _ | with_reducible refine Blk.drew ?_ | (focus (with_reducible refine Blk.far ?_ ?_ _; rotate_left; focus (first | omega | (simp <;> omega)))) | (focus (with_reducible refine Blk.below ?_ hb1 ?_; rotate_left; focus (first | omega | (simp <;> omega)))) | fail))) hb1 (by simp)); (obtain ⟨hc1, hf1⟩ := bcell hb1; have hz1 := hb1.size; (try have y0 : w.heap.size < w1.heap.size := (by (simp at hz1; omega))); (try have y1 : w.heap.size + 1 < w1.heap.size := (by (simp at hz1; omega))); (try have y2 : w.heap.size + 2 < w1.heap.size := (by (simp at hz1; omega))); (try have y3 : w.heap.size + 3 < w1.heap.size := (by (simp at hz1; omega))); clear hz1)
       have kd := hide ((unhide hd).below HB1 lgd)
       have lgd1 : gd < w1.heap.size := (unhide kd).lt
       have e1 : w1.cell? ⟨gd, 1, none⟩ = some (.slice A d.wet.length c) := ((unhide kd).cell 1).trans rfl
       replace ho := hide ho)
    | fail)
  obtain ⟨gD, capD, cur, hA', hgD, hbD, hncD, hcmD, hszD, htkD⟩ : ∃ gD capD, ∃ cur : Array Value, (Value.slice A' d.dry.length c') = .slice (some ⟨gD, 0, none⟩) d.dry.length capD ∧ w.heap.size + 1 ≤ gD ∧ Blk w1 gD 5 cur ∧ d.dry.length ≤ capD ∧ capD ≤ maxLen ∧ cur.size = capD * 1 ∧ cur.toList.take (d.dry.length * 1) = d.dry.map u8v := by
    rcases (unhide ho).2 with ⟨_, h0⟩ | ⟨g, cap, cur, x1, x2, x3, x4, x5, x6, x7⟩
    · omega
    · exact ⟨g, cap, cur, x1, by simpa using x2, x3, x4, x5, x6, x7⟩
  injection hA' with hA1 _ hA2
  subst hA1 hA2
  obtain ⟨S, hS⟩ : ∃ S, cur.toList = d.dry.map u8v ++ S := ⟨cur.toList.drop (d.dry.length * 1), by rw [← htkD, List.take_append_drop]⟩
  have hbD' : Hid (Blk w1 gD 5 (d.dry.map u8v ++ S).toArray) := by
    have : cur = (d.dry.map u8v ++ S).toArray := by rw [← hS, Array.toArray_toList]
    rw [← this]; exact hbD
  have lD := (unhide hbD').lt
  have hcap : c' ≤ 9223372036854775807 := by simpa [maxLen] using hcmD
  have hdiv : d.dry.length / 32 * 32 ≤ c' := by omega
  have e0 : w.heap.size < w1.heap.size := (unhide kr).lt
  clear hS htkD hszD hbD ho hdr hcmD
  have nD : w.heap.size ≤ gD := by omega
  have dn : w1.heap.size ≠ gD := by omega
  have dr : w.heap.size ≠ gD := by omega
  clear e1 g0 g1 g2 hc1 hf1
  go_loopw [10] (fun i wr => ∃ k : Nat, k ≤ d.wet.length ∧ i = .int .i64 k ∧ Hid (Blk wr gD 5 ((syAt d.dry d.wet k).map u8v ++ S).toArray) ∧ Hid (Blk wr w1.heap.size 25 #[.slice (some ⟨gD, 0, none⟩) d.dry.length c', .slice none 0 0, .int .i64 (-1)]) ∧ Hid (Blk wr w.heap.size 25 #[.slice none 0 0, .slice none 0 0, .int .i64 0]) ∧ Hid (Below w.heap.size w wr)) (fun i _ => d.wet.length - (intOf i).toNat)
  case atStart =>
    exact ⟨0, Nat.zero_le _, rfl, (unhide hbD').alloc _, Blk.new rfl, (unhide kr).alloc _, bl_alloc HB1 _⟩
  case round =>
    obtain ⟨k, hk1, rfl, q1, q2, q3, q4⟩ := hrel
    clear hbD'
    by_cases hlt1 : k < d.wet.length
    · obtain ⟨b, off, rfl, hb1', hb2'⟩ := (unhide hA) (by omega)
      obtain ⟨cs, hcs, hcc, bv, rfl, hbv⟩ := (unhide hcell) b off rfl k hlt1
      obtain ⟨p, hpe⟩ : ∃ p, d.wet[k] = p := ⟨_, rfl⟩
      have hpk : d.wet[k]? = some p := by rw [List.getElem?_eq_getElem hlt1, hpe]
      rw [hpe] at hcc hbv
      obtain ⟨pa, pb, pc⟩ := (unhide hp) k p hpk
      have c0 := ((unhide q4).cell (p := ⟨b, off + k * 2 + 0, none⟩) hb2').trans (hcc 0 (by simp))
      have c1' := ((unhide q4).cell (p := ⟨b, off + k * 2 + 1, none⟩) hb2').trans (hcc 1 (by simp))
      obtain ⟨A2, c2, rfl, x1, x2, x3⟩ := hbv
      obtain ⟨b2', o2, rfl, _, hb2lt, hcell2⟩ := x3 (by omega)
      simp only [List.getElem_cons_zero, List.getElem_cons_succ, Nat.add_zero] at c0 c1'
      rw [pc] at c1' x1
      have g0 := (unhide q2).cell 0
      simp at g0
      have l1 := (unhide q1).lt
      have l2 := (unhide q2).lt
      have hlen := syAt_length d.dry d.wet k (unhide hp)
      have hsy := syAt_succ (dry := d.dry) hpk
      have y1 : (p.b.map u8v).length = 32 * 1 := by simp [pc]
      have y2 : p.at_.toNat * 32 + (p.b.map u8v).length ≤ ((syAt d.dry d.wet k).map u8v ++ S).length := by simp [hlen, pc]; omega
      have y3 := u8s_one p.b
      have y4 : (32 : Nat) = Nat.min 32 32 := rfl
      have y5 : SrcOk (wr.alloc (.cells #[.int .i64 p.at_, .slice (some ⟨b2', o2, none⟩) 32 c2] 41)).drew (some ⟨b2', o2, none⟩) (p.b.map u8v).length (p.b.map u8v) := by
        intro _
        refine ⟨_, rfl, fun j u hu => ?_⟩
        rw [List.getElem?_map, Option.map_eq_some_iff] at hu
        obtain ⟨x, hx, rfl⟩ := hu
        obtain ⟨hi, rfl⟩ := List.getElem?_eq_some_iff.1 hx
        have hh := ((bl_alloc (unhide q4) (.cells #[.int .i64 p.at_, .slice (some ⟨b2', o2, none⟩) 32 c2] 41)).cell (p := ⟨b2', o2 + j, none⟩) hb2lt).trans (hcell2 j hi)
        unfold Addr.add
        split
        · rename_i h0; subst h0; exact hh
        · exact hh
      have hsc : (p.at_.toNat + 1) * 32 ≤ c' := by omega
      have i1 : (0 : Int) ≤ (k : Int) := by omega
      have i3 : (k : Int) < (d.wet.length : Int) := by omega
      have lr := (unhide q3).lt
      have np : wr.heap.size ≠ gD := by omega
      replace hpk := hide hpk; replace hcell2 := hide hcell2; replace hcc := hide hcc; replace hpe := hide hpe; replace hlen := hide hlen; replace pc := hide pc; replace hsy := hide hsy
      replace y1 := hide y1; replace y2 := hide y2; replace y3 := hide y3; replace y4 := hide y4; replace y5 := hide y5
      clear x3 hcs
      go_wp2_with fail
      have KD := (unhide q1).alloc (.cells #[.int .i64 p.at_, .slice (some ⟨b2', o2, none⟩) 32 c2] 41)
      replace KD := hide KD
      go_region_held3 (fun W => W.cell? ⟨w1.heap.size, 0, none⟩ = some (.slice (some ⟨gD, 0, none⟩) d.dry.length c') ∧ W.cell? ⟨wr.heap.size, 0, none⟩ = some (.int .i64 p.at_) ∧ W.cell? ⟨wr.heap.size, 1, none⟩ = some (.slice (some ⟨b2', o2, none⟩) 32 c2)) (first | exact ⟨by go_simp, by go_simp, by go_simp⟩)
        (first
          | (go_at_call 38; refine (sector_int gD 0 d.dry.length c' p.at_ _ pa hsc hcap).mono ?_; rintro e w3 ⟨rfl, rfl⟩; simp only [Nat.zero_add])
          | (refine step_copyN rfl (.tmp 18) (.tmp 20) 22 22 rfl 5 1 Try.underlying22 (by kernel_rfl) _ _ _ _ _ _ rfl rfl gD (p.at_.toNat * 32) ((syAt d.dry d.wet k).map u8v ++ S) 5 (Blk.drew (unhide KD)) (p.b.map u8v) 32 (unhide y4) (unhide y1) (fun _ => ⟨rfl, unhide y5⟩) (unhide y2) (unhide y3) ?_; intro w3 B3 O3; have s1 := O3.cell (p := ⟨w1.heap.size, 0, none⟩) dn; have s2 := O3.cell (p := ⟨wr.heap.size, 0, none⟩) np; have s3 := O3.cell (p := ⟨wr.heap.size, 1, none⟩) np))
      clear s1 s2 s3
      go_wp2_with fail
      go_roundw
      case rel =>
        have R0 : Hid (Blk w3 gD 5 ((syAt d.dry d.wet (k + 1)).map u8v ++ S).toArray) := by
          rw [unhide hsy, splice_map, ← splice_app _ _ _ _ (by simp [unhide hlen, unhide pc]; omega)]
          exact B3
        have R1 := hide (((unhide q2).alloc (.cells #[.int .i64 p.at_, .slice (some ⟨b2', o2, none⟩) 32 c2] 41)).drew.only O3 dn)
        have R2 := hide (((unhide q3).alloc (.cells #[.int .i64 p.at_, .slice (some ⟨b2', o2, none⟩) 32 c2] 41)).drew.only O3 dr)
        have R3 := hide (((bl_alloc (unhide q4) (.cells #[.int .i64 p.at_, .slice (some ⟨b2', o2, none⟩) 32 c2] 41)).drew).trans (O3.below nD))
        exact ⟨k + 1, by omega, by go_num, R0, R1, R2, R3⟩
      case measure => simp [intOf]; omega
    · have hk : k = d.wet.length := by omega
      replace hk := hide hk
      have g0 := (unhide q2).cell 0; have g1 := (unhide q2).cell 1; have g2 := (unhide q2).cell 2
      have r0 := (unhide q3).cell 0; have r1 := (unhide q3).cell 1; have r2 := (unhide q3).cell 2
      have f0 := (unhide q3).frozen 0; have f1 := (unhide q3).frozen 1; have f2 := (unhide q3).frozen 2
      simp at g0 g1 g2 r0 r1 r2
      go_wp2_with fail
      refine ret_disk rfl w.heap.size #[.slice (some ⟨gD, 0, none⟩) d.dry.length c', .slice none 0 0, .int .i64 (-1)] rfl rfl (unhide q3).set3 rfl ⟨_, _, _, rfl, ?_, ?_, ?_⟩
      · rw [← unhide hk]
        have G := ((((unhide q1).far (p := ⟨w.heap.size, 0, none⟩) (Ne.symm dr) (.slice (some ⟨gD, 0, none⟩) d.dry.length c')).far (p := ⟨w.heap.size, 1, none⟩) (Ne.symm dr) (.slice none 0 0)).far (p := ⟨w.heap.size, 2, none⟩) (Ne.symm dr) (.int .i64 (-1)))
        have hlen := syAt_length d.dry d.wet k (unhide hp)
        refine ⟨_, _, rfl, ⟨_, c', by rw [hlen], by simp only [hlen]; exact hncD, hcap, fun _ => ⟨gD, 0, rfl, nD, G.lt, fun i hi => ?_⟩⟩, ⟨none, 0, rfl, by simp, by omega, fun h0 => by simp at h0, fun b off e => by cases e⟩⟩
        rw [Nat.zero_add, G.cell]
        simp only [List.getElem?_toArray]
        rw [List.getElem?_append_left (by simpa using hi), List.getElem?_map, List.getElem?_eq_getElem hi]
        rfl
      · exact DryL.of ((((unhide q1).far (p := ⟨w.heap.size, 0, none⟩) (Ne.symm dr) (.slice (some ⟨gD, 0, none⟩) d.dry.length c')).far (p := ⟨w.heap.size, 1, none⟩) (Ne.symm dr) (.slice none 0 0)).far (p := ⟨w.heap.size, 2, none⟩) (Ne.symm dr) (.int .i64 (-1))) nD
      · have bl' := unhide q4
        (repeat (first | with_reducible exact Below.refl _ _ | with_reducible assumption | with_reducible refine Below.drew ?_ | with_reducible refine bl_alloc ?_ _ | with_reducible refine bl_call ?_ (by assumption) | (focus (with_reducible refine Below.setCell ?_ ?_ _; rotate_left; focus (first | omega | (simp <;> omega)))) | fail))

/-- The sync itself: its closure, as a deed. -/
theorem sync_deed2 (lo g0 : Nat) (va vb : Value) (d : Dk) (w : World) (h : Dsk lo w.heap.size w (.agg #[va, vb, .int .i64 d.left]) d)
    (hd : Blk w g0 25 #[va, vb, .int .i64 d.left]) (hok : okD d = true) (hL : d.dry.length ≤ 1000000) (hW : d.wet.length ≤ 1000) (hl : d.left ≠ 0) :
    Calls Try.prog 30 #[.agg #[va, vb, .int .i64 d.left], .func (.func 39) #[] #[.pointer (some ⟨g0, 0, none⟩)]] w fun e w' =>
      ∃ x y, e = .returned (.tuple #[.agg #[x, y, .int .i64 (less d.left)], .int .i64 0]) ∧ Dsk w.heap.size w'.heap.size w' (.agg #[x, y, .int .i64 (less d.left)]) ⟨syAt d.dry d.wet d.wet.length, [], less d.left⟩ ∧ DryL w.heap.size w' x ∧ Below w.heap.size w w' := by
  obtain ⟨_, _, _, hle, hr, hp⟩ := okD_parts hok
  simp only [leftB, decide_eq_true_eq] at hle
  refine (deed_goes 39 _ va vb d.left (fun x y w' => Bs (w.heap.size + 2) w'.heap.size w' x (syAt d.dry d.wet d.wet.length) ∧ Pgs (w.heap.size + 2) w'.heap.size w' y [] ∧ DryL (w.heap.size + 2) w' x) w hl (by omega) (by omega) (callF39 _) ?_ ?_).mono ?_
  · rintro x y w1 w2 ⟨a, b', c'⟩ ha hz
    exact ⟨(a.keep ha).mono (Nat.le_refl _) hz, (b'.keep ha).mono (Nat.le_refl _) hz, c'.keep ha⟩
  · intro W hB hz
    refine (sync1_any2 lo g0 va vb d W ((h.below hB (Nat.le_refl _)).mono (Nat.le_refl _) hB.size) (hd.below hB hd.lt) hok hL hW).mono ?_
    rintro e w' ⟨x0, y0, l0, rfl, hD, hdl, hb'⟩
    obtain ⟨a, b', e9, h1, h2⟩ := hD.mono hz (Nat.le_refl _)
    simp only [Value.agg.injEq, Array.mk.injEq, List.cons.injEq, and_true] at e9
    obtain ⟨rfl, rfl, rfl⟩ := e9
    obtain ⟨A, c, rfl, x1, x2, x3⟩ := h1
    obtain ⟨A', c', rfl, y1, y2, y3, y4⟩ := h2
    exact ⟨A, _, c, A', _, c', _, rfl, ⟨⟨A, c, rfl, x1, x2, x3⟩, ⟨A', c', rfl, y1, y2, y3, y4⟩, hdl.mono hz⟩, hb'⟩
  · rintro e w' ⟨x, y, rfl, ⟨h1, h2, h3⟩, hb'⟩
    exact ⟨x, y, rfl, ⟨x, y, rfl, h1.mono (by omega) (Nat.le_refl _), h2.mono (by omega) (Nat.le_refl _)⟩, h3.mono (by omega), hb'⟩

set_option maxHeartbeats 2000000 in
theorem sync_good2 (lo : Nat) (v : Value) (d : Dk) (w : World) (h : Dsk lo w.heap.size w v d) (hok : okD d = true) (hL : d.dry.length ≤ 1000000) (hW : d.wet.length ≤ 1000) :
    Calls Try.prog 16 #[v] w fun e w' => ∃ x y l E, e = .returned (.tuple #[.agg #[x, y, l], .int .i64 E]) ∧ Dsk w.heap.size w'.heap.size w' (.agg #[x, y, l]) (synD d).1 ∧ E = (synD d).2 ∧ DryL w.heap.size w' x ∧ Below w.heap.size w w' := by
  have h0 := h
  obtain ⟨va, vb, rfl, ha, hbw⟩ := h
  have hD : synD d = if d.left = 0 then (noDk, 11) else (⟨syAt d.dry d.wet d.wet.length, [], less d.left⟩, 0) := by simp [synD, hok]
  have hck : ∀ W, Below w.heap.size w W → Calls Try.prog 24 #[.agg #[va, vb, .int .i64 d.left]] W fun e w' => e = .returned (.int .i64 (badE (okD d))) ∧ Below W.heap.size W w' :=
    fun W hB => check_any lo _ d W ⟨_, _, rfl, ((ha.below hB (Nat.le_refl _)).mono (Nat.le_refl _) hB.size), ((hbw.below hB (Nat.le_refl _)).mono (Nat.le_refl _) hB.size)⟩
  rw [hok] at hck
  obtain ⟨A1, c1, rfl, hx1⟩ := ha
  obtain ⟨A2, c2, rfl, hx2⟩ := hbw
  have hdd : ∀ W g0, Below w.heap.size w W → Blk W g0 25 #[.slice A1 d.dry.length c1, .slice A2 d.wet.length c2, .int .i64 d.left] →
      Calls Try.prog 30 #[.agg #[.slice A1 d.dry.length c1, .slice A2 d.wet.length c2, .int .i64 d.left], .func (.func 39) #[] #[.pointer (some ⟨g0, 0, none⟩)]] W fun e w' =>
      ∃ A n c A' n' c' z E, e = .returned (.tuple #[.agg #[.slice A n c, .slice A' n' c', .int .i64 z], .int .i64 E]) ∧ Dsk W.heap.size w'.heap.size w' (.agg #[.slice A n c, .slice A' n' c', .int .i64 z]) (synD d).1 ∧ E = (synD d).2 ∧ DryL W.heap.size w' (.slice A n c) ∧ Below W.heap.size W w' := by
    intro W g0 hB k0
    have hDW := (h0.below hB (Nat.le_refl _)).mono (Nat.le_refl _) hB.size
    by_cases hl : d.left = 0
    · rw [hD, if_pos hl, hl]
      refine (deed_dead _ _ _ W).mono ?_
      rintro e w' ⟨rfl, hb'⟩
      exact ⟨_, _, _, _, _, _, _, _, rfl, noDk_dsk _ _ _, rfl, DryL.nil, hb'⟩
    · rw [hD, if_neg hl]
      refine (sync_deed2 lo g0 _ _ d W hDW k0 hok hL hW hl).mono ?_
      rintro e w' ⟨x, y, rfl, hd', hdl, hb'⟩
      obtain ⟨A, c, A', c', e9⟩ := hd'.form
      simp only [Value.agg.injEq, Array.mk.injEq, List.cons.injEq, and_true] at e9
      obtain ⟨rfl, rfl⟩ := e9
      exact ⟨_, _, _, _, _, _, _, _, rfl, hd', rfl, hdl, hb'⟩
  replace hck := hide hck; replace hdd := hide hdd; replace hD := hide hD; replace h0 := hide h0
  clear hok hx1 hx2
  have b2 : (badE true != 0) = false := rfl
  generalize d.dry.length = n at *
  generalize d.wet.length = m at *
  go_enter Try.func16, Try.ntmps16
  go_wp2_with (first
    | (go_at_call 24; refine (unhide hck _ (by (repeat (first | with_reducible exact Below.refl _ _ | with_reducible assumption | with_reducible refine Below.drew ?_ | with_reducible refine bl_alloc ?_ _ | with_reducible refine bl_call ?_ (by assumption) | (focus (with_reducible refine Below.setCell ?_ ?_ _; rotate_left; focus (first | omega | (simp <;> omega)))) | fail)))).mono ?_; rintro e w1 ⟨rfl, hb1⟩; have HB1 : Below w.heap.size w w1 := bl_call (by (repeat (first | with_reducible exact Below.refl _ _ | with_reducible assumption | with_reducible refine Below.drew ?_ | with_reducible refine bl_alloc ?_ _ | with_reducible refine bl_call ?_ (by assumption) | (focus (with_reducible refine Below.setCell ?_ ?_ _; rotate_left; focus (first | omega | (simp <;> omega)))) | fail))) hb1
       have k0 := hide (Blk.below (g := w.heap.size) (t := 25) (cs := #[.slice A1 n c1, .slice A2 m c2, .int .i64 d.left]) (by (repeat (first | with_reducible assumption | (focus (with_reducible refine Blk.new ?_; focus (simp <;> fail))) | with_reducible refine Blk.set3 (a := .slice none 0 0) (b := .slice none 0 0) (c := .int .i64 0) ?_ | with_reducible refine Blk.alloc ?_ _ | with_reducible refine Blk.drew ?_ | (focus (with_reducible refine Blk.far ?_ ?_ _; rotate_left; focus (first | omega | (simp <;> omega)))) | (focus (with_reducible refine Blk.below ?_ hb1 ?_; rotate_left; focus (first | omega | (simp <;> omega)))) | fail))) hb1 (by simp <;> omega))
       have k3 := hide (Blk.below (g := w.heap.size + 1) (t := 25) (cs := #[.slice none 0 0, .slice none 0 0, .int .i64 0]) (by (repeat (first | with_reducible assumption | (focus (with_reducible refine Blk.new ?_; focus (simp <;> fail))) | with_reducible refine Blk.set3 (a := .slice none 0 0) (b := .slice none 0 0) (c := .int .i64 0) ?_ | with_reducible refine Blk.alloc ?_ _ | with_reducible refine Blk.drew ?_ | (focus (with_reducible refine Blk.far ?_ ?_ _; rotate_left; focus (first | omega | (simp <;> omega)))) | (focus (with_reducible refine Blk.below ?_ hb1 ?_; rotate_left; focus (first | omega | (simp <;> omega)))) | fail))) hb1 (by simp <;> omega))
       (obtain ⟨hc1, hf1⟩ := bcell hb1; have hz1 := hb1.size; (try have y0 : w.heap.size < w1.heap.size := (by (simp at hz1; omega))); (try have y1 : w.heap.size + 1 < w1.heap.size := (by (simp at hz1; omega))); (try have y2 : w.heap.size + 2 < w1.heap.size := (by (simp at hz1; omega))); (try have y3 : w.heap.size + 3 < w1.heap.size := (by (simp at hz1; omega))); clear hz1))
    | (go_at_call 30; refine (unhide hdd _ _ HB1 (unhide k0)).mono ?_; rintro e w3 ⟨Ax, nx, cx, Ay, ny, cy, zz, E, rfl, hdo, hE, hdl, hb3⟩; replace hdl := hide hdl; obtain ⟨hc3, hf3⟩ := bcell hb3; have HB3 : Below w.heap.size w w3 := bl_call HB1 hb3; replace k3 := hide ((unhide k3).below hb3 y1); replace hdo := hide hdo; replace hE := hide hE)
    | fail)
  refine ret_disk2 rfl (w.heap.size + 1) #[.slice Ax nx cx, .slice Ay ny cy, .int .i64 zz] rfl (.int .i64 E) rfl rfl (unhide k3).set3 rfl ⟨_, _, _, E, rfl, ?_, unhide hE, ((unhide hdl).keep ((((Agree.refl _ _ _).setCell (by simp; omega) _).setCell (by simp; omega) _).setCell (by simp; omega) _)).mono (Nat.le_of_lt (by omega)), by (repeat (first | with_reducible exact Below.refl _ _ | with_reducible assumption | with_reducible refine Below.drew ?_ | with_reducible refine bl_alloc ?_ _ | with_reducible refine bl_call ?_ (by assumption) | (focus (with_reducible refine Below.setCell ?_ ?_ _; rotate_left; focus (first | omega | (simp <;> omega)))) | fail))⟩
  refine ((unhide hdo).keep ?_).mono (Nat.le_of_lt (by omega)) (by simp)
  exact (((Agree.refl _ _ _).setCell (by simp; omega) _).setCell (by simp; omega) _).setCell (by simp; omega) _

theorem sync_own (lo : Nat) (v : Value) (d : Dk) (w : World) (h : Dsk lo w.heap.size w v d) (hL : d.dry.length ≤ 1000000) (hW : d.wet.length ≤ 1000) :
    Calls Try.prog 16 #[v] w fun e w' => ∃ A c A' c', e = .returned (.tuple #[.agg #[.slice A (synD d).1.dry.length c, .slice A' (synD d).1.wet.length c', .int .i64 (synD d).1.left], .int .i64 (synD d).2]) ∧
      Dsk w.heap.size w'.heap.size w' (.agg #[.slice A (synD d).1.dry.length c, .slice A' (synD d).1.wet.length c', .int .i64 (synD d).1.left]) (synD d).1 ∧ U8x w' w.heap.size w'.heap.size A (synD d).1.dry.length ∧ Below w.heap.size w w' := by
  cases hq : okD d
  · refine (sync_bad lo v d w h hq).mono ?_
    rintro e w' ⟨rfl, hb'⟩
    have : synD d = (noDk, 1) := by simp [synD, hq]
    rw [this]
    exact ⟨none, 0, none, 0, rfl, noDk_dsk _ _ _, fun i hi => absurd hi (Nat.not_lt_zero _), hb'⟩
  · refine (sync_good2 lo v d w h hq hL hW).mono ?_
    rintro e w' ⟨x, y, l, E, rfl, hd, rfl, hdl, hb'⟩
    obtain ⟨A, c, A', c', e9⟩ := hd.form
    simp only [Value.agg.injEq, Array.mk.injEq, List.cons.injEq, and_true] at e9
    obtain ⟨rfl, rfl, rfl⟩ := e9
    obtain ⟨a, b, e8, hbs, _⟩ := id hd
    simp only [Value.agg.injEq, Array.mk.injEq, List.cons.injEq, and_true] at e8
    obtain ⟨e81, _⟩ := e8
    rw [← e81] at hbs
    exact ⟨A, c, A', c', rfl, hd, U8x.of_bs hbs rfl hdl, hb'⟩

set_option maxHeartbeats 2000000 in
theorem limit_bad2 (lo : Nat) (v : Value) (d : Dk) (m : Int) (w : World) (h : Dsk lo w.heap.size w v d) (hq : (okD d && leftB m) = false) :
    Calls Try.prog 20 #[v, .int .i64 m] w fun e w' => e = .returned (.tuple #[.agg #[.slice none 0 0, .slice none 0 0, .int .i64 0], .int .i64 1]) ∧ Below w.heap.size w w' := by
  obtain ⟨va, vb, rfl, ha, hb⟩ := h
  have hck : ∀ W, Below w.heap.size w W → Calls Try.prog 24 #[.agg #[va, vb, .int .i64 d.left]] W fun e w' => e = .returned (.int .i64 (badE (okD d))) ∧ Below W.heap.size W w' :=
    fun W hB => check_any lo _ d W ⟨_, _, rfl, ((ha.below hB (Nat.le_refl _)).mono (Nat.le_refl _) hB.size), ((hb.below hB (Nat.le_refl _)).mono (Nat.le_refl _) hB.size)⟩
  obtain ⟨A1, c1, rfl, hl1, hl2, hl3⟩ := ha
  have hlf := left_any m
  have hq' : okD d = false ∨ (okD d = true ∧ leftB m = false) := by
    cases h1 : okD d <;> cases h2 : leftB m <;> simp_all
  replace hck := hide hck; replace hlf := hide hlf; replace hq := hide hq
  clear hb hl1 hl2 hl3
  generalize hok : okD d = ok at *
  generalize hhb : leftB m = hs at *
  replace hok := hide hok; replace hhb := hide hhb
  have b1 : (badE false != 0) = true := rfl
  have b2 : (badE true != 0) = false := rfl
  rcases hq' with rfl | ⟨rfl, rfl⟩
  all_goals
    go_enter Try.func20, Try.ntmps20
    go_wp2_with (first
      | (go_at_call 24; refine (unhide hck _ (by (repeat (first | with_reducible exact Below.refl _ _ | with_reducible assumption | with_reducible refine Below.drew ?_ | with_reducible refine bl_alloc ?_ _ | with_reducible refine bl_call ?_ (by assumption) | (focus (with_reducible refine Below.setCell ?_ ?_ _; rotate_left; focus (first | omega | (simp <;> omega)))) | fail)))).mono ?_; rintro e w1 ⟨rfl, hb1⟩; (obtain ⟨hc1, hf1⟩ := bcell hb1; have hz1 := hb1.size; (try have y0 : w.heap.size < w1.heap.size := (by (simp at hz1; omega))); (try have y1 : w.heap.size + 1 < w1.heap.size := (by (simp at hz1; omega))); (try have y2 : w.heap.size + 2 < w1.heap.size := (by (simp at hz1; omega))); (try have y3 : w.heap.size + 3 < w1.heap.size := (by (simp at hz1; omega))); clear hz1); have HB1 : Below w.heap.size w w1 := bl_call (by (repeat (first | with_reducible exact Below.refl _ _ | with_reducible assumption | with_reducible refine Below.drew ?_ | with_reducible refine bl_alloc ?_ _ | with_reducible refine bl_call ?_ (by assumption) | (focus (with_reducible refine Below.setCell ?_ ?_ _; rotate_left; focus (first | omega | (simp <;> omega)))) | fail))) hb1; have hk := hide (Blk.below (g := w.heap.size + 1) (t := 25) (cs := #[.slice none 0 0, .slice none 0 0, .int .i64 0]) (Blk.new (by simp)) hb1 (by simp)))
      | (go_at_call 41; refine (unhide hlf _).mono ?_; rintro e w2 ⟨rfl, rfl⟩)
      | fail)
    refine ret_disk2 rfl (w.heap.size + 1) #[.slice none 0 0, .slice none 0 0, .int .i64 0] rfl (.int .i64 1) rfl rfl (unhide hk).set3 rfl ⟨rfl, ?_⟩
    (repeat (first | with_reducible exact Below.refl _ _ | with_reducible assumption | with_reducible refine Below.drew ?_ | with_reducible refine bl_alloc ?_ _ | with_reducible refine bl_call ?_ (by assumption) | (focus (with_reducible refine Below.setCell ?_ ?_ _; rotate_left; focus (first | omega | (simp <;> omega)))) | fail))

theorem Dsk.setLeft2 {lo hi : Nat} {w : World} {va vb : Value} {d : Dk} (h : Dsk lo hi w (.agg #[va, vb, .int .i64 d.left]) d) (m : Int) : Dsk lo hi w (.agg #[va, vb, .int .i64 m]) ⟨d.dry, d.wet, m⟩ := by
  obtain ⟨va', vb', e, ha, hb⟩ := h
  simp only [Value.agg.injEq, Array.mk.injEq, List.cons.injEq, and_true] at e
  obtain ⟨rfl, rfl⟩ := e
  exact ⟨_, _, rfl, ha, hb⟩

set_option maxHeartbeats 2000000 in
theorem limit_good2 (lo : Nat) (v : Value) (d : Dk) (m : Int) (w : World) (h : Dsk lo w.heap.size w v d) (hq : okD d = true) (hm : leftB m = true) (hL : d.dry.length ≤ 1000000) (hW : d.wet.length ≤ 1000) :
    Calls Try.prog 20 #[v, .int .i64 m] w fun e w' => ∃ Ax cx Ay cy, e = .returned (.tuple #[.agg #[.slice Ax d.dry.length cx, .slice Ay d.wet.length cy, .int .i64 m], .int .i64 0]) ∧ Dsk w.heap.size w'.heap.size w' (.agg #[.slice Ax d.dry.length cx, .slice Ay d.wet.length cy, .int .i64 m]) ⟨d.dry, d.wet, m⟩ ∧ W8x w' w.heap.size w'.heap.size Ay d.wet.length ∧ Below w.heap.size w w' := by
  have h32 : ∀ (j : Nat) (q : Pg), d.wet[j]? = some q → q.b.length = 32 := fun j q hj => ((okD_parts hq).2.2.2.2.2 j q hj).2.2
  have h0 := h
  obtain ⟨va, vb, rfl, ha, hb⟩ := h
  have hck : ∀ W, Below w.heap.size w W → Calls Try.prog 24 #[.agg #[va, vb, .int .i64 d.left]] W fun e w' => e = .returned (.int .i64 (badE (okD d))) ∧ Below W.heap.size W w' :=
    fun W hB => check_any lo _ d W ((h0.below hB (Nat.le_refl _)).mono (Nat.le_refl _) hB.size)
  rw [hq] at hck
  have hlf := left_any m
  rw [hm] at hlf
  have hcl : ∀ W, Below w.heap.size w W → Calls Try.prog 32 #[.agg #[va, vb, .int .i64 d.left]] W fun e w' => ∃ Ax cx Ay cy, e = .returned (.agg #[.slice Ax d.dry.length cx, .slice Ay d.wet.length cy, .int .i64 d.left]) ∧ Dsk W.heap.size w'.heap.size w' (.agg #[.slice Ax d.dry.length cx, .slice Ay d.wet.length cy, .int .i64 d.left]) d ∧ W8x w' W.heap.size w'.heap.size Ay d.wet.length ∧ Below W.heap.size W w' :=
    fun W hB => (clone_any lo _ d W ((h0.below hB (Nat.le_refl _)).mono (Nat.le_refl _) hB.size) hL hW h32).mono fun e w' ⟨v', h1, h2, h3⟩ => by
      have h4 := h2.dsk h32 (by omega)
      obtain ⟨A, c, A', c', rfl⟩ := h4.form
      exact ⟨_, _, _, _, h1, h4, W8x.of_clone h2 h32 rfl, h3⟩
  obtain ⟨A1, c1, rfl, hx1⟩ := ha
  obtain ⟨A2, c2, rfl, hx2⟩ := hb
  clear hx1 hx2 hq hm hL hW
  replace hck := hide hck; replace hcl := hide hcl; replace hlf := hide hlf; replace h0 := hide h0; replace h32 := hide h32
  have b2 : (badE true != 0) = false := rfl
  go_enter Try.func20, Try.ntmps20
  go_wp2_with (first
    | (go_at_call 24; refine (unhide hck _ (by (repeat (first | with_reducible exact Below.refl _ _ | with_reducible assumption | with_reducible refine Below.drew ?_ | with_reducible refine bl_alloc ?_ _ | with_reducible refine bl_call ?_ (by assumption) | (focus (with_reducible refine Below.setCell ?_ ?_ _; rotate_left; focus (first | omega | (simp <;> omega)))) | fail)))).mono ?_; rintro e w1 ⟨rfl, hb1⟩; have HB1 : Below w.heap.size w w1 := bl_call (by (repeat (first | with_reducible exact Below.refl _ _ | with_reducible assumption | with_reducible refine Below.drew ?_ | with_reducible refine bl_alloc ?_ _ | with_reducible refine bl_call ?_ (by assumption) | (focus (with_reducible refine Below.setCell ?_ ?_ _; rotate_left; focus (first | omega | (simp <;> omega)))) | fail))) hb1
       have k0 := hide (Blk.below (g := w.heap.size) (t := 25) (cs := #[.slice A1 d.dry.length c1, .slice A2 d.wet.length c2, .int .i64 d.left]) (by (repeat (first | with_reducible assumption | (focus (with_reducible refine Blk.new ?_; focus (simp <;> fail))) | with_reducible refine Blk.set3 (a := .slice none 0 0) (b := .slice none 0 0) (c := .int .i64 0) ?_ | with_reducible refine Blk.alloc ?_ _ | with_reducible refine Blk.drew ?_ | (focus (with_reducible refine Blk.far ?_ ?_ _; rotate_left; focus (first | omega | (simp <;> omega)))) | (focus (with_reducible refine Blk.below ?_ hb1 ?_; rotate_left; focus (first | omega | (simp <;> omega)))) | fail))) hb1 (by simp <;> omega))
       have k3 := hide (Blk.below (g := w.heap.size + 1) (t := 25) (cs := #[.slice none 0 0, .slice none 0 0, .int .i64 0]) (by (repeat (first | with_reducible assumption | (focus (with_reducible refine Blk.new ?_; focus (simp <;> fail))) | with_reducible refine Blk.set3 (a := .slice none 0 0) (b := .slice none 0 0) (c := .int .i64 0) ?_ | with_reducible refine Blk.alloc ?_ _ | with_reducible refine Blk.drew ?_ | (focus (with_reducible refine Blk.far ?_ ?_ _; rotate_left; focus (first | omega | (simp <;> omega)))) | (focus (with_reducible refine Blk.below ?_ hb1 ?_; rotate_left; focus (first | omega | (simp <;> omega)))) | fail))) hb1 (by simp <;> omega))
       (obtain ⟨hc1, hf1⟩ := bcell hb1; have hz1 := hb1.size; (try have y0 : w.heap.size < w1.heap.size := (by (simp at hz1; omega))); (try have y1 : w.heap.size + 1 < w1.heap.size := (by (simp at hz1; omega))); (try have y2 : w.heap.size + 2 < w1.heap.size := (by (simp at hz1; omega))); (try have y3 : w.heap.size + 3 < w1.heap.size := (by (simp at hz1; omega))); clear hz1))
    | (go_at_call 41; refine (unhide hlf _).mono ?_; rintro e w2 ⟨rfl, rfl⟩)
    | (go_at_call 32; refine (unhide hcl _ (by (repeat (first | with_reducible exact Below.refl _ _ | with_reducible assumption | with_reducible refine Below.drew ?_ | with_reducible refine bl_alloc ?_ _ | with_reducible refine bl_call ?_ (by assumption) | (focus (with_reducible refine Below.setCell ?_ ?_ _; rotate_left; focus (first | omega | (simp <;> omega)))) | fail)))).mono ?_; rintro e w3 ⟨Ax, cx, Ay, cy, rfl, hdo, hw8, hb3⟩; replace hw8 := hide hw8; have HB3 : Below w.heap.size w w3 := bl_call (by (repeat (first | with_reducible exact Below.refl _ _ | with_reducible assumption | with_reducible refine Below.drew ?_ | with_reducible refine bl_alloc ?_ _ | with_reducible refine bl_call ?_ (by assumption) | (focus (with_reducible refine Below.setCell ?_ ?_ _; rotate_left; focus (first | omega | (simp <;> omega)))) | fail))) hb3
       replace k3 := hide ((unhide k3).below hb3 y1); have y9 : w.heap.size + 1 < w3.heap.size := (unhide k3).lt; replace hdo := hide hdo
       have r0 : w3.cell? ⟨w.heap.size + 1, 0, none⟩ = some (.slice none 0 0) := ((unhide k3).cell 0).trans rfl
       have f0 := (unhide k3).frozen 0
       have r1 : w3.cell? ⟨w.heap.size + 1, 1, none⟩ = some (.slice none 0 0) := ((unhide k3).cell 1).trans rfl
       have f1 := (unhide k3).frozen 1
       have r2 : w3.cell? ⟨w.heap.size + 1, 2, none⟩ = some (.int .i64 0) := ((unhide k3).cell 2).trans rfl
       have f2 := (unhide k3).frozen 2)
    | fail)
  refine ret_disk2 rfl (w.heap.size + 1) #[.slice Ax d.dry.length cx, .slice Ay d.wet.length cy, .int .i64 m] rfl (.int .i64 0) rfl rfl ((unhide k3).set3.alloc _) rfl ⟨_, _, _, _, rfl, ?_, ?_, by (repeat (first | with_reducible exact Below.refl _ _ | with_reducible assumption | with_reducible refine Below.drew ?_ | with_reducible refine bl_alloc ?_ _ | with_reducible refine bl_call ?_ (by assumption) | (focus (with_reducible refine Below.setCell ?_ ?_ _; rotate_left; focus (first | omega | (simp <;> omega)))) | fail))⟩
  rotate_left
  · have hd := (unhide hw8).keep ((((((Agree.refl _ _ _).setCell (p := ⟨w.heap.size + 1, 0, none⟩) (by simp; omega) (.slice Ax d.dry.length cx)).setCell (p := ⟨w.heap.size + 1, 1, none⟩) (by simp; omega) (.slice Ay d.wet.length cy)).setCell (p := ⟨w.heap.size + 1, 2, none⟩) (by simp; omega) (.int .i64 m)).alloc (by simp) (.cells #[.slice Ax d.dry.length cx, .slice Ay d.wet.length cy, .int .i64 m] 25)))
    exact hd.mono (Nat.le_of_lt (by omega)) (by simp)
  have hd := ((unhide hdo).setLeft2 m).keep ((((((Agree.refl _ _ _).setCell (p := ⟨w.heap.size + 1, 0, none⟩) (by simp; omega) (.slice Ax d.dry.length cx)).setCell (p := ⟨w.heap.size + 1, 1, none⟩) (by simp; omega) (.slice Ay d.wet.length cy)).setCell (p := ⟨w.heap.size + 1, 2, none⟩) (by simp; omega) (.int .i64 m)).alloc (by simp) (.cells #[.slice Ax d.dry.length cx, .slice Ay d.wet.length cy, .int .i64 m] 25)))
  exact hd.mono (Nat.le_of_lt (by omega)) (by simp)

theorem limit_own (lo : Nat) (v : Value) (d : Dk) (m : Int) (w : World) (h : Dsk lo w.heap.size w v d) (hL : d.dry.length ≤ 1000000) (hW : d.wet.length ≤ 1000) :
    Calls Try.prog 20 #[v, .int .i64 m] w fun e w' => ∃ A c A' c', e = .returned (.tuple #[.agg #[.slice A (limE d m).1.dry.length c, .slice A' (limE d m).1.wet.length c', .int .i64 (limE d m).1.left], .int .i64 (limE d m).2]) ∧
      Dsk w.heap.size w'.heap.size w' (.agg #[.slice A (limE d m).1.dry.length c, .slice A' (limE d m).1.wet.length c', .int .i64 (limE d m).1.left]) (limE d m).1 ∧ W8x w' w.heap.size w'.heap.size A' (limE d m).1.wet.length ∧ Below w.heap.size w w' := by
  cases hq : okD d && leftB m
  · refine (limit_bad2 lo v d m w h hq).mono ?_
    rintro e w' ⟨rfl, hb'⟩
    have : limE d m = (noDk, 1) := by simp [limE, hq]
    rw [this]
    exact ⟨none, 0, none, 0, rfl, noDk_dsk _ _ _, fun i hi => absurd hi (Nat.not_lt_zero _), hb'⟩
  · have h' := hq
    rw [Bool.and_eq_true] at h'
    refine (limit_good2 lo v d m w h h'.1 h'.2 hL hW).mono ?_
    rintro e w' ⟨A, c, A', c', rfl, hd, hw8, hb'⟩
    have : limE d m = (⟨d.dry, d.wet, m⟩, 0) := by simp [limE, hq]
    rw [this]
    exact ⟨A, c, A', c', rfl, hd, hw8, hb'⟩
end Go.Proofs.Ytcgfcdbchcehmaa
