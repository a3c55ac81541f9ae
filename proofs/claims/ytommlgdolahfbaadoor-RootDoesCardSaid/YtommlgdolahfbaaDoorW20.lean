import Derived.Test.YtommlgdolahfbaaDoorW9
namespace Go.Proofs.YtommlgdolahfbaaDoor
set_option maxRecDepth 100000
open Go.RowKit

/-- What is dry behind a sync, of the first 'k' pages. -/
def syAt (dry : List UInt8) (wet : List Pg) : Nat → List UInt8
  | 0 => dry
  | k + 1 => match wet[k]? with
    | some p => splice (syAt dry wet k) (p.at_.toNat * 32) p.b
    | none => syAt dry wet k
theorem syAt_length (dry : List UInt8) (wet : List Pg) (k : Nat) (h : ∀ (j : Nat) (q : Pg), wet[j]? = some q → 0 ≤ q.at_ ∧ q.at_ < ((dry.length / 32 : Nat) : Int) ∧ q.b.length = 32) : (syAt dry wet k).length = dry.length := by
  induction k with
  | zero => rfl
  | succ k ih =>
    simp only [syAt]
    split
    · rename_i p hp
      obtain ⟨a, b, c⟩ := h k p hp
      rw [length_splice _ _ _ (by rw [ih]; omega), ih]
    · exact ih
theorem syAt_succ {dry : List UInt8} {wet : List Pg} {k : Nat} {p : Pg} (hp : wet[k]? = some p) : syAt dry wet (k + 1) = splice (syAt dry wet k) (p.at_.toNat * 32) p.b := by
  simp only [syAt, hp]
/-- What Sync answers. -/
def synD (d : Dk) : Dk × Int := if okD d then (if d.left = 0 then (noDk, 11) else (⟨syAt d.dry d.wet d.wet.length, [], less d.left⟩, 0)) else (noDk, 1)

set_option maxHeartbeats 8000000 in
theorem sync1_any (lo gd : Nat) (va vb : Value) (d : Dk) (w : World) (h : Dsk lo w.heap.size w (.agg #[va, vb, .int .i64 d.left]) d) (hd : Blk w gd 31 #[va, vb, .int .i64 d.left])
    (hq : okD d = true) (hL : d.dry.length ≤ 1000000) (hW : d.wet.length ≤ 1000) :
    Calls Tryd.prog 55 #[.pointer (some ⟨gd, 0, none⟩)] w fun e w' => ∃ v', e = .returned v' ∧ Dsk w.heap.size w'.heap.size w' v' ⟨syAt d.dry d.wet d.wet.length, [], -1⟩ ∧ Below w.heap.size w w' := by
  obtain ⟨_, hge, _, _, hr, hp⟩ := okD_parts hq
  obtain ⟨va', vb', e, ha, hb⟩ := h
  simp only [Value.agg.injEq, Array.mk.injEq, List.cons.injEq, and_true] at e
  obtain ⟨rfl, rfl⟩ := e
  have hdr := fun W hB => dried_any lo va vb (.int .i64 d.left) d.dry W (((ha.below (B := w.heap.size) hB (Nat.le_refl _)).mono (Nat.le_refl _) (Below.size hB)) : Bs lo W.heap.size W va d.dry) hL
  obtain ⟨A1, c1, rfl, _⟩ := ha
  obtain ⟨A, c, rfl, hlc, hc, hA, hcell⟩ := hb
  have g0 := hd.cell 0; have g1 := hd.cell 1; have g2 := hd.cell 2
  simp at g0 g1 g2
  have lgd := hd.lt
  replace hdr := hide hdr; replace hA := hide hA; replace hcell := hide hcell; replace hr := hide hr; replace hp := hide hp; replace hq := hide hq; replace hd := hide hd
  go_enter Tryd.func55, Tryd.ntmps55
  go_wp2_with (first
    | (go_at_call 52; refine (unhide hdr _ (by (repeat (first | with_reducible exact Below.refl _ _ | with_reducible assumption | with_reducible refine Below.drew ?_ | with_reducible refine bl_alloc ?_ _ | with_reducible refine bl_call ?_ (by assumption) | (focus (with_reducible refine Below.setCell ?_ ?_ _; rotate_left; focus (first | omega | (simp <;> omega)))) | fail)))).mono ?_; rintro e w1 ⟨A', c', rfl, ho, hb1⟩; have HB1 : Below w.heap.size w w1 := bl_call (by (repeat (first | with_reducible exact Below.refl _ _ | with_reducible assumption | with_reducible refine Below.drew ?_ | with_reducible refine bl_alloc ?_ _ | with_reducible refine bl_call ?_ (by assumption) | (focus (with_reducible refine Below.setCell ?_ ?_ _; rotate_left; focus (first | omega | (simp <;> omega)))) | fail))) hb1
       have kr := hide (Blk.below (g := w.heap.size) (t := 31) (cs := #[.slice none 0 0, .slice none 0 0, .int .i64 0]) (by (repeat (first | with_reducible assumption | (focus (with_reducible refine Blk.new ?_; focus (simp <;> fail))) | with_reducible refine Blk.set3 (a := .slice none 0 0) (b := .slice none 0 0) (c := .int .i64 0) ?_ | with_reducible refine Blk.alloc ?_ _ | with_reducible refine Blk.drew ?_ | (focus (with_reducible refine Blk.far ?_ ?_ _; rotate_left; focus (first | omega | (simp <;> omega)))) | (focus (with_reducible refine Blk.below ?_ hb1 ?_; rotate_left; focus (first | omega | (simp <;> omega)))) | fail))) hb1 (by simp)); (obtain ⟨hc1, hf1⟩ := bcell hb1; have hz1 := hb1.size; (try have y0 : w.heap.size < w1.heap.size := (by (simp at hz1; omega))); (try have y1 : w.heap.size + 1 < w1.heap.size := (by (simp at hz1; omega))); (try have y2 : w.heap.size + 2 < w1.heap.size := (by (simp at hz1; omega))); (try have y3 : w.heap.size + 3 < w1.heap.size := (by (simp at hz1; omega))); clear hz1)
       have kd := hide ((unhide hd).below HB1 lgd)
       have lgd1 : gd < w1.heap.size := (unhide kd).lt
       have e1 : w1.cell? ⟨gd, 1, none⟩ = some (.slice A d.wet.length c) := ((unhide kd).cell 1).trans rfl
       replace ho := hide ho)
    | fail)
  obtain ⟨gD, capD, cur, hA', hgD, hbD, hncD, hcmD, hszD, htkD⟩ : ∃ gD capD, ∃ cur : Array Value, (Value.slice A' d.dry.length c') = .slice (some ⟨gD, 0, none⟩) d.dry.length capD ∧ w.heap.size + 1 ≤ gD ∧ Blk w1 gD 5 cur ∧ d.dry.length ≤ capD ∧ capD ≤ maxLen ∧ cur.size = capD * 1 ∧ cur.toList.take (d.dry.length * 1) = d.dry.map u8v := by
    rcases (unhide ho).2 with ⟨_, h0⟩ | ⟨g, cap, cur, x1, x2, x3, x4, x5, x6, x7⟩
    · omega
    · exact ⟨g, cap, cur, x1, by simpa using x2, x3, x4, x5, x6, x7⟩
  injection hA' with hA1 _ hA2
  subst hA1 hA2
  obtain ⟨S, hS⟩ : ∃ S, cur.toList = d.dry.map u8v ++ S := ⟨cur.toList.drop (d.dry.length * 1), by rw [← htkD, List.take_append_drop]⟩
  have hbD' : Hid (Blk w1 gD 5 (d.dry.map u8v ++ S).toArray) := by
    have : cur = (d.dry.map u8v ++ S).toArray := by rw [← hS, Array.toArray_toList]
    rw [← this]; exact hbD
  have lD := (unhide hbD').lt
  have hcap : c' ≤ 9223372036854775807 := by simpa [maxLen] using hcmD
  have hdiv : d.dry.length / 32 * 32 ≤ c' := by omega
  have e0 : w.heap.size < w1.heap.size := (unhide kr).lt
  clear hS htkD hszD hbD ho hdr hcmD
  have nD : w.heap.size ≤ gD := by omega
  have dn : w1.heap.size ≠ gD := by omega
  have dr : w.heap.size ≠ gD := by omega
  clear e1 g0 g1 g2 hc1 hf1
  go_loopw [10] (fun i wr => ∃ k : Nat, k ≤ d.wet.length ∧ i = .int .i64 k ∧ Hid (Blk wr gD 5 ((syAt d.dry d.wet k).map u8v ++ S).toArray) ∧ Hid (Blk wr w1.heap.size 31 #[.slice (some ⟨gD, 0, none⟩) d.dry.length c', .slice none 0 0, .int .i64 (-1)]) ∧ Hid (Blk wr w.heap.size 31 #[.slice none 0 0, .slice none 0 0, .int .i64 0]) ∧ Hid (Below w.heap.size w wr)) (fun i _ => d.wet.length - (intOf i).toNat)
  case atStart =>
    exact ⟨0, Nat.zero_le _, rfl, (unhide hbD').alloc _, Blk.new rfl, (unhide kr).alloc _, bl_alloc HB1 _⟩
  case round =>
    obtain ⟨k, hk1, rfl, q1, q2, q3, q4⟩ := hrel
    clear hbD'
    by_cases hlt1 : k < d.wet.length
    · obtain ⟨b, off, rfl, hb1', hb2'⟩ := (unhide hA) (by omega)
      obtain ⟨cs, hcs, hcc, bv, rfl, hbv⟩ := (unhide hcell) b off rfl k hlt1
      obtain ⟨p, hpe⟩ : ∃ p, d.wet[k] = p := ⟨_, rfl⟩
      have hpk : d.wet[k]? = some p := by rw [List.getElem?_eq_getElem hlt1, hpe]
      rw [hpe] at hcc hbv
      obtain ⟨pa, pb, pc⟩ := (unhide hp) k p hpk
      have c0 := ((unhide q4).cell (p := ⟨b, off + k * 2 + 0, none⟩) hb2').trans (hcc 0 (by simp))
      have c1' := ((unhide q4).cell (p := ⟨b, off + k * 2 + 1, none⟩) hb2').trans (hcc 1 (by simp))
      obtain ⟨A2, c2, rfl, x1, x2, x3⟩ := hbv
      obtain ⟨b2', o2, rfl, _, hb2lt, hcell2⟩ := x3 (by omega)
      simp only [List.getElem_cons_zero, List.getElem_cons_succ, Nat.add_zero] at c0 c1'
      rw [pc] at c1' x1
      have g0 := (unhide q2).cell 0
      simp at g0
      have l1 := (unhide q1).lt
      have l2 := (unhide q2).lt
      have hlen := syAt_length d.dry d.wet k (unhide hp)
      have hsy := syAt_succ (dry := d.dry) hpk
      have y1 : (p.b.map u8v).length = 32 * 1 := by simp [pc]
      have y2 : p.at_.toNat * 32 + (p.b.map u8v).length ≤ ((syAt d.dry d.wet k).map u8v ++ S).length := by simp [hlen, pc]; omega
      have y3 := u8s_one p.b
      have y4 : (32 : Nat) = Nat.min 32 32 := rfl
      have y5 : SrcOk (wr.alloc (.cells #[.int .i64 p.at_, .slice (some ⟨b2', o2, none⟩) 32 c2] 56)).drew (some ⟨b2', o2, none⟩) (p.b.map u8v).length (p.b.map u8v) := by
        intro _
        refine ⟨_, rfl, fun j u hu => ?_⟩
        rw [List.getElem?_map, Option.map_eq_some_iff] at hu
        obtain ⟨x, hx, rfl⟩ := hu
        obtain ⟨hi, rfl⟩ := List.getElem?_eq_some_iff.1 hx
        have hh := ((bl_alloc (unhide q4) (.cells #[.int .i64 p.at_, .slice (some ⟨b2', o2, none⟩) 32 c2] 56)).cell (p := ⟨b2', o2 + j, none⟩) hb2lt).trans (hcell2 j hi)
        unfold Addr.add
        split
        · rename_i h0; subst h0; exact hh
        · exact hh
      have hsc : (p.at_.toNat + 1) * 32 ≤ c' := by omega
      have i1 : (0 : Int) ≤ (k : Int) := by omega
      have i3 : (k : Int) < (d.wet.length : Int) := by omega
      have lr := (unhide q3).lt
      have np : wr.heap.size ≠ gD := by omega
      replace hpk := hide hpk; replace hcell2 := hide hcell2; replace hcc := hide hcc; replace hpe := hide hpe; replace hlen := hide hlen; replace pc := hide pc; replace hsy := hide hsy
      replace y1 := hide y1; replace y2 := hide y2; replace y3 := hide y3; replace y4 := hide y4; replace y5 := hide y5
      clear x3 hcs
      go_wp2_with fail
      have KD := (unhide q1).alloc (.cells #[.int .i64 p.at_, .slice (some ⟨b2', o2, none⟩) 32 c2] 56)
      replace KD := hide KD
      go_region_held3 (fun W => W.cell? ⟨w1.heap.size, 0, none⟩ = some (.slice (some ⟨gD, 0, none⟩) d.dry.length c') ∧ W.cell? ⟨wr.heap.size, 0, none⟩ = some (.int .i64 p.at_) ∧ W.cell? ⟨wr.heap.size, 1, none⟩ = some (.slice (some ⟨b2', o2, none⟩) 32 c2)) (first | exact ⟨by go_simp, by go_simp, by go_simp⟩)
        (first
          | (go_at_call 54; refine (sector_int gD 0 d.dry.length c' p.at_ _ pa hsc hcap).mono ?_; rintro e w3 ⟨rfl, rfl⟩; simp only [Nat.zero_add])
          | (refine step_copyN rfl (.tmp 18) (.tmp 20) 28 28 rfl 5 1 Tryd.underlying28 (by kernel_rfl) _ _ _ _ _ _ rfl rfl gD (p.at_.toNat * 32) ((syAt d.dry d.wet k).map u8v ++ S) 5 (Blk.drew (unhide KD)) (p.b.map u8v) 32 (unhide y4) (unhide y1) (fun _ => ⟨rfl, unhide y5⟩) (unhide y2) (unhide y3) ?_; intro w3 B3 O3; have s1 := O3.cell (p := ⟨w1.heap.size, 0, none⟩) dn; have s2 := O3.cell (p := ⟨wr.heap.size, 0, none⟩) np; have s3 := O3.cell (p := ⟨wr.heap.size, 1, none⟩) np))
      clear s1 s2 s3
      go_wp2_with fail
      go_roundw
      case rel =>
        have R0 : Hid (Blk w3 gD 5 ((syAt d.dry d.wet (k + 1)).map u8v ++ S).toArray) := by
          rw [unhide hsy, splice_map, ← splice_app _ _ _ _ (by simp [unhide hlen, unhide pc]; omega)]
          exact B3
        have R1 := hide (((unhide q2).alloc (.cells #[.int .i64 p.at_, .slice (some ⟨b2', o2, none⟩) 32 c2] 56)).drew.only O3 dn)
        have R2 := hide (((unhide q3).alloc (.cells #[.int .i64 p.at_, .slice (some ⟨b2', o2, none⟩) 32 c2] 56)).drew.only O3 dr)
        have R3 := hide (((bl_alloc (unhide q4) (.cells #[.int .i64 p.at_, .slice (some ⟨b2', o2, none⟩) 32 c2] 56)).drew).trans (O3.below nD))
        exact ⟨k + 1, by omega, by go_num, R0, R1, R2, R3⟩
      case measure => simp [intOf]; omega
    · have hk : k = d.wet.length := by omega
      replace hk := hide hk
      have g0 := (unhide q2).cell 0; have g1 := (unhide q2).cell 1; have g2 := (unhide q2).cell 2
      have r0 := (unhide q3).cell 0; have r1 := (unhide q3).cell 1; have r2 := (unhide q3).cell 2
      have f0 := (unhide q3).frozen 0; have f1 := (unhide q3).frozen 1; have f2 := (unhide q3).frozen 2
      simp at g0 g1 g2 r0 r1 r2
      go_wp2_with fail
      refine ret_disk rfl w.heap.size #[.slice (some ⟨gD, 0, none⟩) d.dry.length c', .slice none 0 0, .int .i64 (-1)] rfl rfl (unhide q3).set3 rfl ⟨_, rfl, ?_, ?_⟩
      · rw [← unhide hk]
        have G := ((((unhide q1).far (p := ⟨w.heap.size, 0, none⟩) (Ne.symm dr) (.slice (some ⟨gD, 0, none⟩) d.dry.length c')).far (p := ⟨w.heap.size, 1, none⟩) (Ne.symm dr) (.slice none 0 0)).far (p := ⟨w.heap.size, 2, none⟩) (Ne.symm dr) (.int .i64 (-1)))
        have hlen := syAt_length d.dry d.wet k (unhide hp)
        refine ⟨_, _, rfl, ⟨_, c', by rw [hlen], by simp only [hlen]; exact hncD, hcap, fun _ => ⟨gD, 0, rfl, nD, G.lt, fun i hi => ?_⟩⟩, ⟨none, 0, rfl, by simp, by omega, fun h0 => by simp at h0, fun b off e => by cases e⟩⟩
        rw [Nat.zero_add, G.cell]
        simp only [List.getElem?_toArray]
        rw [List.getElem?_append_left (by simpa using hi), List.getElem?_map, List.getElem?_eq_getElem hi]
        rfl
      · have bl' := unhide q4
        (repeat (first | with_reducible exact Below.refl _ _ | with_reducible assumption | with_reducible refine Below.drew ?_ | with_reducible refine bl_alloc ?_ _ | with_reducible refine bl_call ?_ (by assumption) | (focus (with_reducible refine Below.setCell ?_ ?_ _; rotate_left; focus (first | omega | (simp <;> omega)))) | fail))

theorem callF39 (caps : Array Value) (W : World) : (callFunc 55 caps).run Tryd.prog W = .ok (.enter 55 caps) W := by
  have h : Tryd.prog.funcs[55]? = some Tryd.f55 := Tryd.func55
  have hn : Tryd.f55.name ≠ "runtime.NumGoroutine" := by
    have : (Tryd.f55.name == "runtime.NumGoroutine") = false := by kernel_rfl
    simpa using this
  have hb : Tryd.f55.body ≠ none := by
    have : Tryd.f55.body.isNone = false := by kernel_rfl
    intro h0
    rw [h0] at this
    cases this
  simp [callFunc, h, hn, hb]

/-- The sync itself: its closure, as a deed. -/
theorem sync_deed (lo g0 : Nat) (va vb : Value) (d : Dk) (w : World) (h : Dsk lo w.heap.size w (.agg #[va, vb, .int .i64 d.left]) d)
    (hd : Blk w g0 31 #[va, vb, .int .i64 d.left]) (hok : okD d = true) (hL : d.dry.length ≤ 1000000) (hW : d.wet.length ≤ 1000) (hl : d.left ≠ 0) :
    Calls Tryd.prog 46 #[.agg #[va, vb, .int .i64 d.left], .func (.func 55) #[] #[.pointer (some ⟨g0, 0, none⟩)]] w fun e w' =>
      ∃ v', e = .returned (.tuple #[v', .int .i64 0]) ∧ Dsk w.heap.size w'.heap.size w' v' ⟨syAt d.dry d.wet d.wet.length, [], less d.left⟩ ∧ Below w.heap.size w w' := by
  obtain ⟨_, _, _, hle, hr, hp⟩ := okD_parts hok
  simp only [leftB, decide_eq_true_eq] at hle
  refine (deed_goes 55 _ va vb d.left (fun x y w' => Bs (w.heap.size + 2) w'.heap.size w' x (syAt d.dry d.wet d.wet.length) ∧ Pgs (w.heap.size + 2) w'.heap.size w' y []) w hl (by omega) (by omega) (callF39 _) ?_ ?_).mono ?_
  · rintro x y w1 w2 ⟨a, b'⟩ ha hz
    exact ⟨(a.keep ha).mono (Nat.le_refl _) hz, (b'.keep ha).mono (Nat.le_refl _) hz⟩
  · intro W hB hz
    refine (sync1_any lo g0 va vb d W ((h.below hB (Nat.le_refl _)).mono (Nat.le_refl _) hB.size) (hd.below hB hd.lt) hok hL hW).mono ?_
    rintro e w' ⟨v', rfl, hD, hb'⟩
    obtain ⟨a, b', rfl, h1, h2⟩ := hD.mono hz (Nat.le_refl _)
    obtain ⟨A, c, rfl, x1, x2, x3⟩ := h1
    obtain ⟨A', c', rfl, y1, y2, y3, y4⟩ := h2
    exact ⟨A, _, c, A', _, c', _, rfl, ⟨⟨A, c, rfl, x1, x2, x3⟩, ⟨A', c', rfl, y1, y2, y3, y4⟩⟩, hb'⟩
  · rintro e w' ⟨x, y, rfl, ⟨h1, h2⟩, hb'⟩
    exact ⟨_, rfl, ⟨x, y, rfl, h1.mono (by omega) (Nat.le_refl _), h2.mono (by omega) (Nat.le_refl _)⟩, hb'⟩

set_option maxHeartbeats 1000000 in
theorem sync_bad (lo : Nat) (v : Value) (d : Dk) (w : World) (h : Dsk lo w.heap.size w v d) (hq : okD d = false) :
    Calls Tryd.prog 37 #[v] w fun e w' => e = .returned (.tuple #[.agg #[.slice none 0 0, .slice none 0 0, .int .i64 0], .int .i64 1]) ∧ Below w.heap.size w w' := by
  have hck : ∀ W, Below w.heap.size w W → Calls Tryd.prog 44 #[v] W fun e w' => e = .returned (.int .i64 (badE false)) ∧ Below W.heap.size W w' :=
    fun W hB => by have := check_any lo v d W ((h.below hB (Nat.le_refl _)).mono (Nat.le_refl _) hB.size); rwa [hq] at this
  obtain ⟨A, c, A', c', rfl⟩ := h.form
  replace hck := hide hck; replace hq := hide hq; replace h := hide h
  have b1 : (badE false != 0) = true := rfl
  go_enter Tryd.func37, Tryd.ntmps37
  go_wp2_with (first
    | (go_at_call 44; refine (unhide hck _ (by (repeat (first | with_reducible exact Below.refl _ _ | with_reducible assumption | with_reducible refine Below.drew ?_ | with_reducible refine bl_alloc ?_ _ | with_reducible refine bl_call ?_ (by assumption) | (focus (with_reducible refine Below.setCell ?_ ?_ _; rotate_left; focus (first | omega | (simp <;> omega)))) | fail)))).mono ?_; rintro e w1 ⟨rfl, hb1⟩; have HB1 : Below w.heap.size w w1 := bl_call (by (repeat (first | with_reducible exact Below.refl _ _ | with_reducible assumption | with_reducible refine Below.drew ?_ | with_reducible refine bl_alloc ?_ _ | with_reducible refine bl_call ?_ (by assumption) | (focus (with_reducible refine Below.setCell ?_ ?_ _; rotate_left; focus (first | omega | (simp <;> omega)))) | fail))) hb1; have hk := hide (Blk.below (g := w.heap.size + 1) (t := 31) (cs := #[.slice none 0 0, .slice none 0 0, .int .i64 0]) (Blk.new (by simp)) hb1 (by simp)); (obtain ⟨hc1, hf1⟩ := bcell hb1; have hz1 := hb1.size; (try have y0 : w.heap.size < w1.heap.size := (by (simp at hz1; omega))); (try have y1 : w.heap.size + 1 < w1.heap.size := (by (simp at hz1; omega))); (try have y2 : w.heap.size + 2 < w1.heap.size := (by (simp at hz1; omega))); (try have y3 : w.heap.size + 3 < w1.heap.size := (by (simp at hz1; omega))); clear hz1))
    | fail)
  refine ret_disk2 rfl (w.heap.size + 1) #[.slice none 0 0, .slice none 0 0, .int .i64 0] rfl (.int .i64 1) rfl rfl (unhide hk).set3 rfl ⟨rfl, ?_⟩
  (repeat (first | with_reducible exact Below.refl _ _ | with_reducible assumption | with_reducible refine Below.drew ?_ | with_reducible refine bl_alloc ?_ _ | with_reducible refine bl_call ?_ (by assumption) | (focus (with_reducible refine Below.setCell ?_ ?_ _; rotate_left; focus (first | omega | (simp <;> omega)))) | fail))

set_option maxHeartbeats 2000000 in
theorem sync_good (lo : Nat) (v : Value) (d : Dk) (w : World) (h : Dsk lo w.heap.size w v d) (hok : okD d = true) (hL : d.dry.length ≤ 1000000) (hW : d.wet.length ≤ 1000) :
    Calls Tryd.prog 37 #[v] w fun e w' => ∃ v' E, e = .returned (.tuple #[v', .int .i64 E]) ∧ Dsk w.heap.size w'.heap.size w' v' (synD d).1 ∧ E = (synD d).2 ∧ Below w.heap.size w w' := by
  have h0 := h
  obtain ⟨va, vb, rfl, ha, hbw⟩ := h
  have hD : synD d = if d.left = 0 then (noDk, 11) else (⟨syAt d.dry d.wet d.wet.length, [], less d.left⟩, 0) := by simp [synD, hok]
  have hck : ∀ W, Below w.heap.size w W → Calls Tryd.prog 44 #[.agg #[va, vb, .int .i64 d.left]] W fun e w' => e = .returned (.int .i64 (badE (okD d))) ∧ Below W.heap.size W w' :=
    fun W hB => check_any lo _ d W ⟨_, _, rfl, ((ha.below hB (Nat.le_refl _)).mono (Nat.le_refl _) hB.size), ((hbw.below hB (Nat.le_refl _)).mono (Nat.le_refl _) hB.size)⟩
  rw [hok] at hck
  obtain ⟨A1, c1, rfl, hx1⟩ := ha
  obtain ⟨A2, c2, rfl, hx2⟩ := hbw
  have hdd : ∀ W g0, Below w.heap.size w W → Blk W g0 31 #[.slice A1 d.dry.length c1, .slice A2 d.wet.length c2, .int .i64 d.left] →
      Calls Tryd.prog 46 #[.agg #[.slice A1 d.dry.length c1, .slice A2 d.wet.length c2, .int .i64 d.left], .func (.func 55) #[] #[.pointer (some ⟨g0, 0, none⟩)]] W fun e w' =>
      ∃ A n c A' n' c' z E, e = .returned (.tuple #[.agg #[.slice A n c, .slice A' n' c', .int .i64 z], .int .i64 E]) ∧ Dsk W.heap.size w'.heap.size w' (.agg #[.slice A n c, .slice A' n' c', .int .i64 z]) (synD d).1 ∧ E = (synD d).2 ∧ Below W.heap.size W w' := by
    intro W g0 hB k0
    have hDW := (h0.below hB (Nat.le_refl _)).mono (Nat.le_refl _) hB.size
    by_cases hl : d.left = 0
    · rw [hD, if_pos hl, hl]
      refine (deed_dead _ _ _ W).mono ?_
      rintro e w' ⟨rfl, hb'⟩
      exact ⟨_, _, _, _, _, _, _, _, rfl, noDk_dsk _ _ _, rfl, hb'⟩
    · rw [hD, if_neg hl]
      refine (sync_deed lo g0 _ _ d W hDW k0 hok hL hW hl).mono ?_
      rintro e w' ⟨v', rfl, hd', hb'⟩
      obtain ⟨A, c, A', c', rfl⟩ := hd'.form
      exact ⟨_, _, _, _, _, _, _, _, rfl, hd', rfl, hb'⟩
  replace hck := hide hck; replace hdd := hide hdd; replace hD := hide hD; replace h0 := hide h0
  clear hok hx1 hx2
  have b2 : (badE true != 0) = false := rfl
  generalize d.dry.length = n at *
  generalize d.wet.length = m at *
  go_enter Tryd.func37, Tryd.ntmps37
  go_wp2_with (first
    | (go_at_call 44; refine (unhide hck _ (by (repeat (first | with_reducible exact Below.refl _ _ | with_reducible assumption | with_reducible refine Below.drew ?_ | with_reducible refine bl_alloc ?_ _ | with_reducible refine bl_call ?_ (by assumption) | (focus (with_reducible refine Below.setCell ?_ ?_ _; rotate_left; focus (first | omega | (simp <;> omega)))) | fail)))).mono ?_; rintro e w1 ⟨rfl, hb1⟩; have HB1 : Below w.heap.size w w1 := bl_call (by (repeat (first | with_reducible exact Below.refl _ _ | with_reducible assumption | with_reducible refine Below.drew ?_ | with_reducible refine bl_alloc ?_ _ | with_reducible refine bl_call ?_ (by assumption) | (focus (with_reducible refine Below.setCell ?_ ?_ _; rotate_left; focus (first | omega | (simp <;> omega)))) | fail))) hb1
       have k0 := hide (Blk.below (g := w.heap.size) (t := 31) (cs := #[.slice A1 n c1, .slice A2 m c2, .int .i64 d.left]) (by (repeat (first | with_reducible assumption | (focus (with_reducible refine Blk.new ?_; focus (simp <;> fail))) | with_reducible refine Blk.set3 (a := .slice none 0 0) (b := .slice none 0 0) (c := .int .i64 0) ?_ | with_reducible refine Blk.alloc ?_ _ | with_reducible refine Blk.drew ?_ | (focus (with_reducible refine Blk.far ?_ ?_ _; rotate_left; focus (first | omega | (simp <;> omega)))) | (focus (with_reducible refine Blk.below ?_ hb1 ?_; rotate_left; focus (first | omega | (simp <;> omega)))) | fail))) hb1 (by simp <;> omega))
       have k3 := hide (Blk.below (g := w.heap.size + 1) (t := 31) (cs := #[.slice none 0 0, .slice none 0 0, .int .i64 0]) (by (repeat (first | with_reducible assumption | (focus (with_reducible refine Blk.new ?_; focus (simp <;> fail))) | with_reducible refine Blk.set3 (a := .slice none 0 0) (b := .slice none 0 0) (c := .int .i64 0) ?_ | with_reducible refine Blk.alloc ?_ _ | with_reducible refine Blk.drew ?_ | (focus (with_reducible refine Blk.far ?_ ?_ _; rotate_left; focus (first | omega | (simp <;> omega)))) | (focus (with_reducible refine Blk.below ?_ hb1 ?_; rotate_left; focus (first | omega | (simp <;> omega)))) | fail))) hb1 (by simp <;> omega))
       (obtain ⟨hc1, hf1⟩ := bcell hb1; have hz1 := hb1.size; (try have y0 : w.heap.size < w1.heap.size := (by (simp at hz1; omega))); (try have y1 : w.heap.size + 1 < w1.heap.size := (by (simp at hz1; omega))); (try have y2 : w.heap.size + 2 < w1.heap.size := (by (simp at hz1; omega))); (try have y3 : w.heap.size + 3 < w1.heap.size := (by (simp at hz1; omega))); clear hz1))
    | (go_at_call 46; refine (unhide hdd _ _ HB1 (unhide k0)).mono ?_; rintro e w3 ⟨Ax, nx, cx, Ay, ny, cy, zz, E, rfl, hdo, hE, hb3⟩; obtain ⟨hc3, hf3⟩ := bcell hb3; have HB3 : Below w.heap.size w w3 := bl_call HB1 hb3; replace k3 := hide ((unhide k3).below hb3 y1); replace hdo := hide hdo; replace hE := hide hE)
    | fail)
  refine ret_disk2 rfl (w.heap.size + 1) #[.slice Ax nx cx, .slice Ay ny cy, .int .i64 zz] rfl (.int .i64 E) rfl rfl (unhide k3).set3 rfl ⟨_, E, rfl, ?_, unhide hE, by (repeat (first | with_reducible exact Below.refl _ _ | with_reducible assumption | with_reducible refine Below.drew ?_ | with_reducible refine bl_alloc ?_ _ | with_reducible refine bl_call ?_ (by assumption) | (focus (with_reducible refine Below.setCell ?_ ?_ _; rotate_left; focus (first | omega | (simp <;> omega)))) | fail))⟩
  refine ((unhide hdo).keep ?_).mono (Nat.le_of_lt (by omega)) (by simp)
  exact (((Agree.refl _ _ _).setCell (by simp; omega) _).setCell (by simp; omega) _).setCell (by simp; omega) _

theorem sync_any (lo : Nat) (v : Value) (d : Dk) (w : World) (h : Dsk lo w.heap.size w v d) (hL : d.dry.length ≤ 1000000) (hW : d.wet.length ≤ 1000) :
    Calls Tryd.prog 37 #[v] w fun e w' => ∃ v' E, e = .returned (.tuple #[v', .int .i64 E]) ∧ Dsk w.heap.size w'.heap.size w' v' (synD d).1 ∧ E = (synD d).2 ∧ Below w.heap.size w w' := by
  cases hq : okD d
  · refine (sync_bad lo v d w h hq).mono ?_
    rintro e w' ⟨rfl, hb'⟩
    have : synD d = (noDk, 1) := by simp [synD, hq]
    exact ⟨_, _, rfl, by rw [this]; exact noDk_dsk _ _ _, by rw [this], hb'⟩
  · exact sync_good lo v d w h hq hL hW
end Go.Proofs.YtommlgdolahfbaaDoor
