import Derived.Test.YtommlgdolahfbaaDoorW5
import Derived.Test.YtommlgdolahfbaaDoorW6
namespace Go.Proofs.YtommlgdolahfbaaDoor
set_option maxRecDepth 100000
open Go.RowKit

theorem wetFrom_low (n last : Int) (ps : List Pg) (h : wetFrom n last ps = true) : ∀ (j : Nat) (q : Pg), ps[j]? = some q → last < q.at_ ∧ q.at_ < n ∧ q.b.length = 32 := by
  induction ps generalizing last with
  | nil => intro j q hq; simp at hq
  | cons p ps ih =>
    simp only [wetFrom, Bool.and_eq_true, decide_eq_true_eq] at h
    intro j q hq
    cases j with
    | zero =>
      rw [List.getElem?_cons_zero] at hq
      injection hq with hq
      subst hq
      exact h.1
    | succ j =>
      rw [List.getElem?_cons_succ] at hq
      obtain ⟨a, b, c⟩ := ih _ h.2 j q hq
      exact ⟨by omega, b, c⟩

theorem wetFrom_rises (n last : Int) (ps : List Pg) (h : wetFrom n last ps = true) : Rises ps := by
  induction ps generalizing last with
  | nil => intro i j hi; simp at hi
  | cons p ps ih =>
    simp only [wetFrom, Bool.and_eq_true, decide_eq_true_eq] at h
    intro i j hi hj hij
    cases i with
    | zero =>
      cases j with
      | zero => omega
      | succ j =>
        have := wetFrom_low n p.at_ ps h.2 j _ (List.getElem?_eq_getElem (by simpa using hj))
        simpa using this.1
    | succ i =>
      cases j with
      | zero => omega
      | succ j => simpa using ih _ h.2 i j (by simpa using hi) (by simpa using hj) (by omega)

theorem okD_parts {d : Dk} (h : okD d = true) : d.dry.length % 32 = 0 ∧ 1 ≤ d.dry.length / 32 ∧ d.dry.length / 32 ≤ 8192 ∧ leftB d.left = true ∧ Rises d.wet ∧ (∀ (j : Nat) (q : Pg), d.wet[j]? = some q → 0 ≤ q.at_ ∧ q.at_ < ((d.dry.length / 32 : Nat) : Int) ∧ q.b.length = 32) := by
  simp only [okD, Bool.and_eq_true, decide_eq_true_eq] at h
  obtain ⟨⟨⟨⟨h1, h2⟩, h3⟩, h4⟩, h5⟩ := h
  refine ⟨h1, h2, h3, h4, wetFrom_rises _ _ _ h5, fun j q hq => ?_⟩
  obtain ⟨a, b, c⟩ := wetFrom_low _ _ _ h5 j q hq
  exact ⟨by omega, b, c⟩

/-- No disk at all. -/
def noDk : Dk := ⟨[], [], 0⟩
theorem noDk_dsk (lo hi : Nat) (w : World) : Dsk lo hi w (.agg #[.slice none 0 0, .slice none 0 0, .int .i64 0]) noDk :=
  ⟨_, _, rfl, ⟨none, 0, rfl, by simp [noDk], by omega, fun h => by simp [noDk] at h⟩, ⟨none, 0, rfl, by simp [noDk], by omega, fun h => by simp [noDk] at h, fun b off e => by cases e⟩⟩

/-- May the write be? -/
def wrB (d : Dk) (at_ : Int) (m : Nat) : Bool := okD d && hasB d.dry.length at_ && decide (m = 32)

set_option maxHeartbeats 1000000 in
theorem write_bad (lo : Nat) (v : Value) (d : Dk) (at_ : Int) (A : Option Addr) (m c : Nat) (w : World) (h : Dsk lo w.heap.size w v d) (_hm : m ≤ 9223372036854775807) (hq : wrB d at_ m = false) :
    Calls Tryd.prog 23 #[v, .int .i64 at_, .slice A m c] w fun e w' => e = .returned (.tuple #[.agg #[.slice none 0 0, .slice none 0 0, .int .i64 0], .int .i64 1]) ∧ Below w.heap.size w w' := by
  obtain ⟨va, vb, rfl, ha, hb⟩ := h
  have hck : ∀ W, Below w.heap.size w W → Calls Tryd.prog 44 #[.agg #[va, vb, .int .i64 d.left]] W fun e w' => e = .returned (.int .i64 (badE (okD d))) ∧ Below W.heap.size W w' :=
    fun W hB => check_any lo _ d W ⟨_, _, rfl, ((ha.below hB (Nat.le_refl _)).mono (Nat.le_refl _) hB.size), ((hb.below hB (Nat.le_refl _)).mono (Nat.le_refl _) hB.size)⟩
  obtain ⟨A1, c1, rfl, hl1, hl2, hl3⟩ := ha
  have hhs := fun W => has_any A1 d.dry.length c1 vb (.int .i64 d.left) at_ W (by omega)
  have hq' : okD d = false ∨ (okD d = true ∧ (hasB d.dry.length at_ = false ∨ (hasB d.dry.length at_ = true ∧ ((m : Int) != 32) = true))) := by
    simp only [wrB] at hq
    cases h1 : okD d <;> cases h2 : hasB d.dry.length at_ <;> simp_all
    omega
  replace hck := hide hck; replace hhs := hide hhs; replace hq := hide hq
  clear hb hl1 hl2 hl3
  generalize d.dry.length = n at *
  generalize hok : okD d = ok at *
  generalize hhb : hasB n at_ = hs at *
  replace hok := hide hok; replace hhb := hide hhb
  have b1 : (badE false != 0) = true := rfl
  have b2 : (badE true != 0) = false := rfl
  rcases hq' with rfl | ⟨rfl, rfl | ⟨rfl, h32⟩⟩
  · go_enter Tryd.func23, Tryd.ntmps23
    go_wp2_with (first
      | (go_at_call 44; refine (unhide hck _ (by (repeat (first | with_reducible exact Below.refl _ _ | with_reducible assumption | with_reducible refine Below.drew ?_ | with_reducible refine bl_alloc ?_ _ | with_reducible refine bl_call ?_ (by assumption) | (focus (with_reducible refine Below.setCell ?_ ?_ _; rotate_left; focus (first | omega | (simp <;> omega)))) | fail)))).mono ?_; rintro e w1 ⟨rfl, hb1⟩; (obtain ⟨hc1, hf1⟩ := bcell hb1; have hz1 := hb1.size; (try have y0 : w.heap.size < w1.heap.size := (by (simp at hz1; omega))); (try have y1 : w.heap.size + 1 < w1.heap.size := (by (simp at hz1; omega))); (try have y2 : w.heap.size + 2 < w1.heap.size := (by (simp at hz1; omega))); (try have y3 : w.heap.size + 3 < w1.heap.size := (by (simp at hz1; omega))); clear hz1); have HB1 : Below w.heap.size w w1 := bl_call (by (repeat (first | with_reducible exact Below.refl _ _ | with_reducible assumption | with_reducible refine Below.drew ?_ | with_reducible refine bl_alloc ?_ _ | with_reducible refine bl_call ?_ (by assumption) | (focus (with_reducible refine Below.setCell ?_ ?_ _; rotate_left; focus (first | omega | (simp <;> omega)))) | fail))) hb1; have hk := hide (Blk.below (g := w.heap.size + 3) (t := 31) (cs := #[.slice none 0 0, .slice none 0 0, .int .i64 0]) (Blk.new (by simp)) hb1 (by simp)))
      | fail)
    refine ret_disk2 rfl (w.heap.size + 3) #[.slice none 0 0, .slice none 0 0, .int .i64 0] rfl (.int .i64 1) rfl rfl (unhide hk).set3 rfl ⟨rfl, ?_⟩
    (repeat (first | with_reducible exact Below.refl _ _ | with_reducible assumption | with_reducible refine Below.drew ?_ | with_reducible refine bl_alloc ?_ _ | with_reducible refine bl_call ?_ (by assumption) | (focus (with_reducible refine Below.setCell ?_ ?_ _; rotate_left; focus (first | omega | (simp <;> omega)))) | fail))
  · go_enter Tryd.func23, Tryd.ntmps23
    go_wp2_with (first
      | (go_at_call 44; refine (unhide hck _ (by (repeat (first | with_reducible exact Below.refl _ _ | with_reducible assumption | with_reducible refine Below.drew ?_ | with_reducible refine bl_alloc ?_ _ | with_reducible refine bl_call ?_ (by assumption) | (focus (with_reducible refine Below.setCell ?_ ?_ _; rotate_left; focus (first | omega | (simp <;> omega)))) | fail)))).mono ?_; rintro e w1 ⟨rfl, hb1⟩; (obtain ⟨hc1, hf1⟩ := bcell hb1; have hz1 := hb1.size; (try have y0 : w.heap.size < w1.heap.size := (by (simp at hz1; omega))); (try have y1 : w.heap.size + 1 < w1.heap.size := (by (simp at hz1; omega))); (try have y2 : w.heap.size + 2 < w1.heap.size := (by (simp at hz1; omega))); (try have y3 : w.heap.size + 3 < w1.heap.size := (by (simp at hz1; omega))); clear hz1); have HB1 : Below w.heap.size w w1 := bl_call (by (repeat (first | with_reducible exact Below.refl _ _ | with_reducible assumption | with_reducible refine Below.drew ?_ | with_reducible refine bl_alloc ?_ _ | with_reducible refine bl_call ?_ (by assumption) | (focus (with_reducible refine Below.setCell ?_ ?_ _; rotate_left; focus (first | omega | (simp <;> omega)))) | fail))) hb1; have hk := hide (Blk.below (g := w.heap.size + 3) (t := 31) (cs := #[.slice none 0 0, .slice none 0 0, .int .i64 0]) (Blk.new (by simp)) hb1 (by simp)))
      | (go_at_call 45; refine (unhide hhs _).mono ?_; rintro e w2 ⟨rfl, hb2⟩; obtain ⟨hc2, hf2⟩ := bcell hb2; have HB2 : Below w.heap.size w w2 := bl_call HB1 hb2; have hk2 := hide ((unhide hk).below hb2 y3))
      | fail)
    refine ret_disk2 rfl (w.heap.size + 3) #[.slice none 0 0, .slice none 0 0, .int .i64 0] rfl (.int .i64 1) rfl rfl (unhide hk2).set3 rfl ⟨rfl, ?_⟩
    (repeat (first | with_reducible exact Below.refl _ _ | with_reducible assumption | with_reducible refine Below.drew ?_ | with_reducible refine bl_alloc ?_ _ | with_reducible refine bl_call ?_ (by assumption) | (focus (with_reducible refine Below.setCell ?_ ?_ _; rotate_left; focus (first | omega | (simp <;> omega)))) | fail))
  · go_enter Tryd.func23, Tryd.ntmps23
    go_wp2_with (first
      | (go_at_call 44; refine (unhide hck _ (by (repeat (first | with_reducible exact Below.refl _ _ | with_reducible assumption | with_reducible refine Below.drew ?_ | with_reducible refine bl_alloc ?_ _ | with_reducible refine bl_call ?_ (by assumption) | (focus (with_reducible refine Below.setCell ?_ ?_ _; rotate_left; focus (first | omega | (simp <;> omega)))) | fail)))).mono ?_; rintro e w1 ⟨rfl, hb1⟩; (obtain ⟨hc1, hf1⟩ := bcell hb1; have hz1 := hb1.size; (try have y0 : w.heap.size < w1.heap.size := (by (simp at hz1; omega))); (try have y1 : w.heap.size + 1 < w1.heap.size := (by (simp at hz1; omega))); (try have y2 : w.heap.size + 2 < w1.heap.size := (by (simp at hz1; omega))); (try have y3 : w.heap.size + 3 < w1.heap.size := (by (simp at hz1; omega))); clear hz1); have HB1 : Below w.heap.size w w1 := bl_call (by (repeat (first | with_reducible exact Below.refl _ _ | with_reducible assumption | with_reducible refine Below.drew ?_ | with_reducible refine bl_alloc ?_ _ | with_reducible refine bl_call ?_ (by assumption) | (focus (with_reducible refine Below.setCell ?_ ?_ _; rotate_left; focus (first | omega | (simp <;> omega)))) | fail))) hb1; have hk := hide (Blk.below (g := w.heap.size + 3) (t := 31) (cs := #[.slice none 0 0, .slice none 0 0, .int .i64 0]) (Blk.new (by simp)) hb1 (by simp)))
      | (go_at_call 45; refine (unhide hhs _).mono ?_; rintro e w2 ⟨rfl, hb2⟩; obtain ⟨hc2, hf2⟩ := bcell hb2; have HB2 : Below w.heap.size w w2 := bl_call HB1 hb2; have hk2 := hide ((unhide hk).below hb2 y3))
      | fail)
    refine ret_disk2 rfl (w.heap.size + 3) #[.slice none 0 0, .slice none 0 0, .int .i64 0] rfl (.int .i64 1) rfl rfl (unhide hk2).set3 rfl ⟨rfl, ?_⟩
    (repeat (first | with_reducible exact Below.refl _ _ | with_reducible assumption | with_reducible refine Below.drew ?_ | with_reducible refine bl_alloc ?_ _ | with_reducible refine bl_call ?_ (by assumption) | (focus (with_reducible refine Below.setCell ?_ ?_ _; rotate_left; focus (first | omega | (simp <;> omega)))) | fail))

theorem callF31 (caps : Array Value) (W : World) : (callFunc 47 caps).run Tryd.prog W = .ok (.enter 47 caps) W := by
  have h : Tryd.prog.funcs[47]? = some Tryd.f47 := Tryd.func47
  have hn : Tryd.f47.name ≠ "runtime.NumGoroutine" := by
    have : (Tryd.f47.name == "runtime.NumGoroutine") = false := by kernel_rfl
    simpa using this
  have hb : Tryd.f47.body ≠ none := by
    have : Tryd.f47.body.isNone = false := by kernel_rfl
    intro h0
    rw [h0] at this
    cases this
  simp [callFunc, h, hn, hb]

theorem Dsk.form {lo hi : Nat} {w : World} {v : Value} {d : Dk} (h : Dsk lo hi w v d) : ∃ A c A' c', v = .agg #[.slice A d.dry.length c, .slice A' d.wet.length c', .int .i64 d.left] := by
  obtain ⟨a, b, rfl, ⟨A, c, rfl, _⟩, ⟨A', c', rfl, _⟩⟩ := h
  exact ⟨A, c, A', c', rfl⟩

/-- The write itself: its closure, as a deed. -/
theorem write_deed (lo g0 g1 g2 : Nat) (va vb bb : Value) (d : Dk) (at_ : Int) (b : List UInt8) (w : World) (h : Dsk lo w.heap.size w (.agg #[va, vb, .int .i64 d.left]) d)
    (hd : Blk w g0 31 #[va, vb, .int .i64 d.left]) (ht : Blk w g1 3 #[.int .i64 at_]) (hbb : Blk w g2 28 #[bb]) (hb : Bs lo w.heap.size w bb b) (hb32 : b.length = 32)
    (hok : okD d = true) (hL : d.dry.length ≤ 1000000) (hW : d.wet.length ≤ 1000) (hl : d.left ≠ 0) :
    Calls Tryd.prog 46 #[.agg #[va, vb, .int .i64 d.left], .func (.func 47) #[] #[.pointer (some ⟨g0, 0, none⟩), .pointer (some ⟨g1, 0, none⟩), .pointer (some ⟨g2, 0, none⟩)]] w fun e w' =>
      ∃ v', e = .returned (.tuple #[v', .int .i64 0]) ∧ Dsk w.heap.size w'.heap.size w' v' ⟨d.dry, wrPg d.wet at_ b, less d.left⟩ ∧ Below w.heap.size w w' := by
  obtain ⟨_, _, _, hle, hr, hp⟩ := okD_parts hok
  simp only [leftB, decide_eq_true_eq] at hle
  refine (deed_goes 47 _ va vb d.left (fun x y w' => Bs (w.heap.size + 2) w'.heap.size w' x d.dry ∧ Pgs (w.heap.size + 2) w'.heap.size w' y (wrPg d.wet at_ b)) w hl (by omega) (by omega) (callF31 _) ?_ ?_).mono ?_
  · rintro x y w1 w2 ⟨a, b'⟩ ha hz
    exact ⟨(a.keep ha).mono (Nat.le_refl _) hz, (b'.keep ha).mono (Nat.le_refl _) hz⟩
  · intro W hB hz
    have hlt0 := hd.lt; have hlt1 := ht.lt; have hlt2 := hbb.lt
    refine (write1_any lo g0 g1 g2 va vb bb d at_ b W ((h.below hB (Nat.le_refl _)).mono (Nat.le_refl _) hB.size) (hd.below hB hlt0) (ht.below hB hlt1) (hbb.below hB hlt2) ((hb.below hB (Nat.le_refl _)).mono (Nat.le_refl _) hB.size) hb32 hL hW (fun j q hq => (hp j q hq).2.2) hr).mono ?_
    rintro e w' ⟨v', rfl, hD, hb'⟩
    obtain ⟨a, b', rfl, h1, h2⟩ := hD.mono hz (Nat.le_refl _)
    obtain ⟨A, c, rfl, x1, x2, x3⟩ := h1
    obtain ⟨A', c', rfl, y1, y2, y3, y4⟩ := h2
    exact ⟨A, _, c, A', _, c', _, rfl, ⟨⟨A, c, rfl, x1, x2, x3⟩, ⟨A', c', rfl, y1, y2, y3, y4⟩⟩, hb'⟩
  · rintro e w' ⟨x, y, rfl, ⟨h1, h2⟩, hb'⟩
    exact ⟨_, rfl, ⟨x, y, rfl, h1.mono (by omega) (Nat.le_refl _), h2.mono (by omega) (Nat.le_refl _)⟩, hb'⟩


/-- What Write answers: the disk, and the error's number. -/
def wrD (d : Dk) (at_ : Int) (b : List UInt8) : Dk × Int :=
  if wrB d at_ b.length then (if d.left = 0 then (noDk, 11) else (⟨d.dry, wrPg d.wet at_ b, less d.left⟩, 0)) else (noDk, 1)

set_option maxHeartbeats 2000000 in
theorem write_good (lo : Nat) (v bb : Value) (d : Dk) (at_ : Int) (b : List UInt8) (w : World) (h : Dsk lo w.heap.size w v d) (hb : Bs lo w.heap.size w bb b) (hq : wrB d at_ b.length = true) (hL : d.dry.length ≤ 1000000) (hW : d.wet.length ≤ 1000) :
    Calls Tryd.prog 23 #[v, .int .i64 at_, bb] w fun e w' => ∃ v' E, e = .returned (.tuple #[v', .int .i64 E]) ∧ Dsk w.heap.size w'.heap.size w' v' (wrD d at_ b).1 ∧ E = (wrD d at_ b).2 ∧ Below w.heap.size w w' := by
  have h0 := h
  obtain ⟨va, vb, rfl, ha, hbw⟩ := h
  simp only [wrB, Bool.and_eq_true, decide_eq_true_eq] at hq
  obtain ⟨⟨hok, hhs⟩, h32⟩ := hq
  have hD : wrD d at_ b = if d.left = 0 then (noDk, 11) else (⟨d.dry, wrPg d.wet at_ b, less d.left⟩, 0) := by simp [wrD, wrB, hok, hhs, h32]
  have hck : ∀ W, Below w.heap.size w W → Calls Tryd.prog 44 #[.agg #[va, vb, .int .i64 d.left]] W fun e w' => e = .returned (.int .i64 (badE (okD d))) ∧ Below W.heap.size W w' :=
    fun W hB => check_any lo _ d W ⟨_, _, rfl, ((ha.below hB (Nat.le_refl _)).mono (Nat.le_refl _) hB.size), ((hbw.below hB (Nat.le_refl _)).mono (Nat.le_refl _) hB.size)⟩
  rw [hok] at hck
  have ha' := ha
  obtain ⟨A1, c1, rfl, hl1, hl2, hl3⟩ := ha'
  have hhs' := fun W => has_any A1 d.dry.length c1 vb (.int .i64 d.left) at_ W (by omega)
  rw [hhs] at hhs'
  have hdd : ∀ W g0 g1 g2, Below w.heap.size w W → Blk W g0 31 #[.slice A1 d.dry.length c1, vb, .int .i64 d.left] → Blk W g1 3 #[.int .i64 at_] → Blk W g2 28 #[bb] →
      Calls Tryd.prog 46 #[.agg #[.slice A1 d.dry.length c1, vb, .int .i64 d.left], .func (.func 47) #[] #[.pointer (some ⟨g0, 0, none⟩), .pointer (some ⟨g1, 0, none⟩), .pointer (some ⟨g2, 0, none⟩)]] W fun e w' =>
      ∃ A n c A' n' c' z E, e = .returned (.tuple #[.agg #[.slice A n c, .slice A' n' c', .int .i64 z], .int .i64 E]) ∧ Dsk W.heap.size w'.heap.size w' (.agg #[.slice A n c, .slice A' n' c', .int .i64 z]) (wrD d at_ b).1 ∧ E = (wrD d at_ b).2 ∧ Below W.heap.size W w' := by
    intro W g0 g1 g2 hB k0 k1 k2
    have hDW := (h0.below hB (Nat.le_refl _)).mono (Nat.le_refl _) hB.size
    have hbW := (hb.below hB (Nat.le_refl _)).mono (Nat.le_refl _) hB.size
    by_cases hl : d.left = 0
    · rw [hD, if_pos hl, hl]
      refine (deed_dead _ _ _ W).mono ?_
      rintro e w' ⟨rfl, hb'⟩
      exact ⟨_, _, _, _, _, _, _, _, rfl, noDk_dsk _ _ _, rfl, hb'⟩
    · rw [hD, if_neg hl]
      refine (write_deed lo g0 g1 g2 _ vb bb d at_ b W hDW k0 k1 k2 hbW h32 hok hL hW hl).mono ?_
      rintro e w' ⟨v', rfl, hd', hb'⟩
      obtain ⟨A, c, A', c', rfl⟩ := hd'.form
      exact ⟨_, _, _, _, _, _, _, _, rfl, hd', rfl, hb'⟩
  obtain ⟨Ab, cb, rfl, bl1, bl2, bl3⟩ := hb
  replace hck := hide hck; replace hhs' := hide hhs'; replace hdd := hide hdd; replace hD := hide hD; replace h0 := hide h0
  clear ha hbw hl1 hl2 hl3 bl1 bl2 bl3 hok hhs
  rw [h32] at hdd ⊢
  replace h32 := hide h32
  have b2 : (badE true != 0) = false := rfl
  generalize d.dry.length = n at *
  go_enter Tryd.func23, Tryd.ntmps23
  go_wp2_with (first
    | (go_at_call 44; refine (unhide hck _ (by (repeat (first | with_reducible exact Below.refl _ _ | with_reducible assumption | with_reducible refine Below.drew ?_ | with_reducible refine bl_alloc ?_ _ | with_reducible refine bl_call ?_ (by assumption) | (focus (with_reducible refine Below.setCell ?_ ?_ _; rotate_left; focus (first | omega | (simp <;> omega)))) | fail)))).mono ?_; rintro e w1 ⟨rfl, hb1⟩; have HB1 : Below w.heap.size w w1 := bl_call (by (repeat (first | with_reducible exact Below.refl _ _ | with_reducible assumption | with_reducible refine Below.drew ?_ | with_reducible refine bl_alloc ?_ _ | with_reducible refine bl_call ?_ (by assumption) | (focus (with_reducible refine Below.setCell ?_ ?_ _; rotate_left; focus (first | omega | (simp <;> omega)))) | fail))) hb1
       have k0 := hide (Blk.below (g := w.heap.size) (t := 31) (cs := #[.slice A1 n c1, vb, .int .i64 d.left]) (by (repeat (first | with_reducible assumption | (focus (with_reducible refine Blk.new ?_; focus (simp <;> fail))) | with_reducible refine Blk.set3 (a := .slice none 0 0) (b := .slice none 0 0) (c := .int .i64 0) ?_ | with_reducible refine Blk.alloc ?_ _ | with_reducible refine Blk.drew ?_ | (focus (with_reducible refine Blk.far ?_ ?_ _; rotate_left; focus (first | omega | (simp <;> omega)))) | (focus (with_reducible refine Blk.below ?_ hb1 ?_; rotate_left; focus (first | omega | (simp <;> omega)))) | fail))) hb1 (by simp <;> omega))
       have k1 := hide (Blk.below (g := w.heap.size + 1) (t := 3) (cs := #[.int .i64 at_]) (by (repeat (first | with_reducible assumption | (focus (with_reducible refine Blk.new ?_; focus (simp <;> fail))) | with_reducible refine Blk.set3 (a := .slice none 0 0) (b := .slice none 0 0) (c := .int .i64 0) ?_ | with_reducible refine Blk.alloc ?_ _ | with_reducible refine Blk.drew ?_ | (focus (with_reducible refine Blk.far ?_ ?_ _; rotate_left; focus (first | omega | (simp <;> omega)))) | (focus (with_reducible refine Blk.below ?_ hb1 ?_; rotate_left; focus (first | omega | (simp <;> omega)))) | fail))) hb1 (by simp <;> omega))
       have k2 := hide (Blk.below (g := w.heap.size + 2) (t := 28) (cs := #[.slice Ab 32 cb]) (by (repeat (first | with_reducible assumption | (focus (with_reducible refine Blk.new ?_; focus (simp <;> fail))) | with_reducible refine Blk.set3 (a := .slice none 0 0) (b := .slice none 0 0) (c := .int .i64 0) ?_ | with_reducible refine Blk.alloc ?_ _ | with_reducible refine Blk.drew ?_ | (focus (with_reducible refine Blk.far ?_ ?_ _; rotate_left; focus (first | omega | (simp <;> omega)))) | (focus (with_reducible refine Blk.below ?_ hb1 ?_; rotate_left; focus (first | omega | (simp <;> omega)))) | fail))) hb1 (by simp <;> omega))
       have k3 := hide (Blk.below (g := w.heap.size + 3) (t := 31) (cs := #[.slice none 0 0, .slice none 0 0, .int .i64 0]) (by (repeat (first | with_reducible assumption | (focus (with_reducible refine Blk.new ?_; focus (simp <;> fail))) | with_reducible refine Blk.set3 (a := .slice none 0 0) (b := .slice none 0 0) (c := .int .i64 0) ?_ | with_reducible refine Blk.alloc ?_ _ | with_reducible refine Blk.drew ?_ | (focus (with_reducible refine Blk.far ?_ ?_ _; rotate_left; focus (first | omega | (simp <;> omega)))) | (focus (with_reducible refine Blk.below ?_ hb1 ?_; rotate_left; focus (first | omega | (simp <;> omega)))) | fail))) hb1 (by simp <;> omega))
       (obtain ⟨hc1, hf1⟩ := bcell hb1; have hz1 := hb1.size; (try have y0 : w.heap.size < w1.heap.size := (by (simp at hz1; omega))); (try have y1 : w.heap.size + 1 < w1.heap.size := (by (simp at hz1; omega))); (try have y2 : w.heap.size + 2 < w1.heap.size := (by (simp at hz1; omega))); (try have y3 : w.heap.size + 3 < w1.heap.size := (by (simp at hz1; omega))); clear hz1))
    | (go_at_call 45; refine (unhide hhs' _).mono ?_; rintro e w2 ⟨rfl, hb2⟩; obtain ⟨hc2, hf2⟩ := bcell hb2; have HB2 : Below w.heap.size w w2 := bl_call HB1 hb2; have z0 := hb2.size
       have y4 : w.heap.size + 3 < w2.heap.size := Nat.lt_of_lt_of_le y3 z0
       replace k0 := hide ((unhide k0).below hb2 y0); replace k1 := hide ((unhide k1).below hb2 y1); replace k2 := hide ((unhide k2).below hb2 y2); replace k3 := hide ((unhide k3).below hb2 y3))
    | (go_at_call 46; refine (unhide hdd _ _ _ _ HB2 (unhide k0) (unhide k1) (unhide k2)).mono ?_; rintro e w3 ⟨Ax, nx, cx, Ay, ny, cy, zz, E, rfl, hdo, hE, hb3⟩; obtain ⟨hc3, hf3⟩ := bcell hb3; have HB3 : Below w.heap.size w w3 := bl_call HB2 hb3; replace k3 := hide ((unhide k3).below hb3 y4); replace hdo := hide hdo; replace hE := hide hE)
    | fail)
  refine ret_disk2 rfl (w.heap.size + 3) #[.slice Ax nx cx, .slice Ay ny cy, .int .i64 zz] rfl (.int .i64 E) rfl rfl (unhide k3).set3 rfl ⟨_, E, rfl, ?_, unhide hE, by (repeat (first | with_reducible exact Below.refl _ _ | with_reducible assumption | with_reducible refine Below.drew ?_ | with_reducible refine bl_alloc ?_ _ | with_reducible refine bl_call ?_ (by assumption) | (focus (with_reducible refine Below.setCell ?_ ?_ _; rotate_left; focus (first | omega | (simp <;> omega)))) | fail))⟩
  refine ((unhide hdo).keep ?_).mono (Nat.le_of_lt (by omega)) (by simp)
  exact (((Agree.refl _ _ _).setCell (by simp; omega) _).setCell (by simp; omega) _).setCell (by simp; omega) _

theorem write_any (lo : Nat) (v bb : Value) (d : Dk) (at_ : Int) (b : List UInt8) (w : World) (h : Dsk lo w.heap.size w v d) (hb : Bs lo w.heap.size w bb b) (hL : d.dry.length ≤ 1000000) (hW : d.wet.length ≤ 1000) :
    Calls Tryd.prog 23 #[v, .int .i64 at_, bb] w fun e w' => ∃ v' E, e = .returned (.tuple #[v', .int .i64 E]) ∧ Dsk w.heap.size w'.heap.size w' v' (wrD d at_ b).1 ∧ E = (wrD d at_ b).2 ∧ Below w.heap.size w w' := by
  cases hq : wrB d at_ b.length
  · obtain ⟨A, c, rfl, x1, x2, _⟩ := hb
    refine (write_bad lo v d at_ A b.length c w h (by omega) hq).mono ?_
    rintro e w' ⟨rfl, hb'⟩
    have : wrD d at_ b = (noDk, 1) := by simp [wrD, hq]
    exact ⟨_, _, rfl, by rw [this]; exact noDk_dsk _ _ _, by rw [this], hb'⟩
  · exact write_good lo v bb d at_ b w h hb hq hL hW

end Go.Proofs.YtommlgdolahfbaaDoor
