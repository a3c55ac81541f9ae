import Derived.Test.YtommlgdolahfbaaDoorQ42
namespace Go.Proofs.YtommlgdolahfbaaDoor
set_option maxRecDepth 100000
open Go.RowKit

/-- What the reference's Copy leaves: bytes in a row of its own below 'B', pages from 'B' on. -/
def CopyOut (base : Nat) (w' : World) (v : Value) (d : Dk) : Prop :=
  ∃ A c Aw cw B, v = .agg #[.slice A d.dry.length c, .slice Aw d.wet.length cw, .int .i64 d.left] ∧ w'.ownsRow base 5 1 (.slice A d.dry.length c) d.dry.length (d.dry.map u8v) ∧ VBelow B (.slice A d.dry.length c) ∧ base ≤ B ∧ B ≤ w'.heap.size ∧ Pgs B w'.heap.size w' (.slice Aw d.wet.length cw) d.wet


theorem cutC {w w3 : World} {g1 g2 : Nat} {v : Value} {n : Nat} {xs : List Value} {C1 C2 C3 : Array Value} (K1 : Blk w3 g1 31 C1) (K2 : Blk w3 g2 31 C2) (ho : w3.ownsRow w.heap.size 5 1 v n xs) (hb : Below w.heap.size w w3) :
    Blk (w3.alloc (.cells C3 31)) w3.heap.size 31 C3 ∧ (w3.alloc (.cells C3 31)).ownsRow w.heap.size 5 1 v n xs ∧ Blk (w3.alloc (.cells C3 31)) g1 31 C1 ∧ Blk (w3.alloc (.cells C3 31)) g2 31 C2 ∧ Below w.heap.size w (w3.alloc (.cells C3 31)) ∧ g2 < w3.heap.size :=
  ⟨Blk.new rfl, ho.alloc _, K1.alloc _, K2.alloc _, bl_alloc hb _, K2.lt⟩
theorem cutD {w w3 : World} {g1 g2 g3 : Nat} {v a b c x y z : Value} {n : Nat} {xs : List Value} {C1 C2 : Array Value} (K1 : Blk w3 g1 31 C1) (K2 : Blk w3 g2 31 C2) (K3 : Blk w3 g3 31 #[a, b, c]) (ho : w3.ownsRow w.heap.size 5 1 v n xs) (hb : Below w.heap.size w w3) (h1 : g1 ≠ g3) (h2 : g2 < g3) (h3 : w.heap.size ≤ g3) :
    Blk (((w3.setCell ⟨g3, 0, none⟩ x).setCell ⟨g3, 1, none⟩ y).setCell ⟨g3, 2, none⟩ z) g3 31 #[x, y, z] ∧ (((w3.setCell ⟨g3, 0, none⟩ x).setCell ⟨g3, 1, none⟩ y).setCell ⟨g3, 2, none⟩ z).ownsRow w.heap.size 5 1 v n xs ∧
    Blk (((w3.setCell ⟨g3, 0, none⟩ x).setCell ⟨g3, 1, none⟩ y).setCell ⟨g3, 2, none⟩ z) g1 31 C1 ∧ Blk (((w3.setCell ⟨g3, 0, none⟩ x).setCell ⟨g3, 1, none⟩ y).setCell ⟨g3, 2, none⟩ z) g2 31 C2 ∧
    Below w.heap.size w (((w3.setCell ⟨g3, 0, none⟩ x).setCell ⟨g3, 1, none⟩ y).setCell ⟨g3, 2, none⟩ z) ∧ g2 < g3 :=
  ⟨K3.set3, own_set3 ho K3 (by decide), ((K1.far h1 _).far h1 _).far h1 _, ((K2.far (Nat.ne_of_lt h2) _).far (Nat.ne_of_lt h2) _).far (Nat.ne_of_lt h2) _, ((hb.setCell h3 _).setCell h3 _).setCell h3 _, h2⟩


theorem copyStep {w wr w5 w6 : World} {B g2 g3 n k pl : Nat} {v v2 v6 : Value} {A5 : Option Addr} {c5 : Nat} {l left at_ : Value} {pb dry : List UInt8} {cs : List Value} {ps : List Pg} {p : Pg} {C2 : Array Value} {P : Obj}
    (hat : at_ = .int .i64 p.at_) (hps : ps.length = k) (hpb : pb = p.b) (hpl : pl = p.b.length)
    (G : Blk wr g3 31 #[l, v2, left]) (R : wr.ownsRow B 56 2 v2 k cs) (C : PgC wr B cs ps) (D : wr.ownsRow w.heap.size 5 1 v n (dry.map u8v)) (Z : Blk wr g2 31 C2) (hb : Below w.heap.size w wr) (hB : B ≤ wr.heap.size) (hwB : w.heap.size ≤ B) (h3 : w.heap.size ≤ g3) (h23 : g2 ≠ g3)
    (hg5 : (wr.alloc P).drew.grownBy w5 none) (ho5 : w5.ownsRow B 5 1 (.slice A5 pl c5) pl (pb.map u8v))
    (hg6 : (w5.alloc (.cells #[at_, .slice A5 pl c5] 56)).grownBy w6 v2.ownBlock) (ho6 : w6.ownsRow B 56 2 v6 (k + 1) (cs ++ [at_, .slice A5 pl c5])) :
    Blk (w6.setCell ⟨g3, 1, none⟩ v6) g3 31 #[l, v6, left] ∧ (w6.setCell ⟨g3, 1, none⟩ v6).ownsRow B 56 2 v6 (k + 1) (cs ++ [at_, .slice A5 pl c5]) ∧ PgC (w6.setCell ⟨g3, 1, none⟩ v6) B (cs ++ [at_, .slice A5 pl c5]) (ps ++ [p]) ∧
    (w6.setCell ⟨g3, 1, none⟩ v6).ownsRow w.heap.size 5 1 v n (dry.map u8v) ∧ Blk (w6.setCell ⟨g3, 1, none⟩ v6) g2 31 C2 ∧ Below w.heap.size w (w6.setCell ⟨g3, 1, none⟩ v6) ∧ B ≤ (w6.setCell ⟨g3, 1, none⟩ v6).heap.size := by
  subst hat hpb hpl
  have R0 : (wr.alloc P).drew.ownsRow B 56 2 v2 k cs := R.alloc P
  have R5 := own_grown9 R0 hg5 (fun _ _ e => by cases e)
  have R5' := R5.alloc (.cells #[.int .i64 p.at_, .slice A5 p.b.length c5] 56)
  have G0 : Blk (wr.alloc P).drew g3 31 #[l, v2, left] := G.alloc P
  have G5 := (Blk.grown9 G0 hg5 (fun e => by cases e)).alloc (.cells #[.int .i64 p.at_, .slice A5 p.b.length c5] 56)
  have G6 := Blk.grown9 G5 hg6 (own_ne9 R5' G5 (by decide))
  have Z0 : Blk (wr.alloc P).drew g2 31 C2 := Z.alloc P
  have Z5 := (Blk.grown9 Z0 hg5 (fun e => by cases e)).alloc (.cells #[.int .i64 p.at_, .slice A5 p.b.length c5] 56)
  have Z6 := Blk.grown9 Z5 hg6 (own_ne9 R5' Z5 (by decide))
  have step : ∀ base v n xs, wr.ownsRow base 5 1 v n xs → (w6.setCell ⟨g3, 1, none⟩ v6).ownsRow base 5 1 v n xs := fun base v n xs h => by
    have h0 : (wr.alloc P).drew.ownsRow base 5 1 v n xs := h.alloc P
    have h5 := (own_grown9 h0 hg5 (fun _ _ e => by cases e)).alloc (.cells #[.int .i64 p.at_, .slice A5 p.b.length c5] 56)
    exact own_far (own_grown9 h5 hg6 (own_own9 h5 R5' (by decide))) G6 (by decide) 1 _
  have hcl : cs.length = ps.length * 2 := by rw [hps]; exact R.1
  have hb0 : Below w.heap.size w (wr.alloc P).drew := (bl_alloc hb P).drew
  have hb5 := bl_grown hb0 hg5 (fun k hk => by cases hk)
  have hb6 := bl_grown (bl_alloc hb5 (.cells #[.int .i64 p.at_, .slice A5 p.b.length c5] 56)) hg6 (fun k hk => Nat.le_trans hwB (own_base9 R5 k hk))
  refine ⟨by simpa using G6.set 1 v6, own_far ho6 G6 (by decide) 1 _, ?_, step _ _ _ _ D, Z6.far h23 _, hb6.setCell h3 _, ?_⟩
  · refine PgC.snoc (C.keep (step B)) hcl ?_
    have h5 := ho5.alloc (.cells #[.int .i64 p.at_, .slice A5 p.b.length c5] 56)
    exact own_far (own_grown9 h5 hg6 (own_own9 h5 R5' (by decide))) G6 (by decide) 1 _
  · have z5 := hg5.size
    have z6 := hg6.size
    simp at z5 z6 ⊢
    omega

set_option maxRecDepth 100000 in
set_option maxHeartbeats 4000000 in
theorem refcopy_any (lo : Nat) (v : Value) (d : Dk) (w : World) (h : Dsk lo w.heap.size w v d) (hL : d.dry.length ≤ 1000000) (hW : d.wet.length ≤ 1000) (hP : ∀ (j : Nat) (q : Pg), d.wet[j]? = some q → q.b.length ≤ 1000000) :
    Calls Tryd.prog 10 #[v] w fun e w' => ∃ v', e = .returned v' ∧ CopyOut w.heap.size w' v' d ∧ Below w.heap.size w w' := by
  obtain ⟨i0, hi0, iz0, iz1, iz2⟩ := info_parts info41
  obtain ⟨i5, hi5, jz0, jz1, jz2⟩ := info_parts info5
  obtain ⟨va, vb, rfl, ha, hb⟩ := h
  have ha' := ha
  obtain ⟨A1, c1, rfl, _⟩ := ha'
  have hsA := ha.src.2
  obtain ⟨A, c, rfl, hlc, hc, hA, hcell⟩ := hb
  obtain ⟨n, hn⟩ : ∃ n, n = d.wet.length := ⟨_, rfl⟩
  have hxl : (d.dry.map u8v).length = d.dry.length * 1 := by simp
  have hx1 := u8s_one d.dry
  have b1 : 0 + d.dry.length ≤ maxLen := by simp only [maxLen]; omega
  have b2 : (0 + d.dry.length) * 1 ≤ 140737488355328 := by omega
  rw [← hn] at hlc hW ⊢
  have hsA' := fun W (hb : Below w.heap.size w W) => hsA.below hb
  clear ha hsA
  replace hA := hide hA; replace hcell := hide hcell; replace hn := hide hn; replace hsA' := hide hsA'; replace hxl := hide hxl; replace hx1 := hide hx1; replace b1 := hide b1; replace b2 := hide b2; replace hP := hide hP
  go_enter Tryd.func10, Tryd.ntmps10
  go_upto_region 1 with fail
  have K1 : Blk ((w.alloc (.cells #[.slice A1 d.dry.length c1, .slice A n c, .int .i64 d.left] 31)).alloc (.cells #[.slice none 0 0, .slice none 0 0, .int .i64 0] 31)) w.heap.size 31 #[.slice A1 d.dry.length c1, .slice A n c, .int .i64 d.left] := (Blk.new rfl).alloc _
  have K2 : Blk ((w.alloc (.cells #[.slice A1 d.dry.length c1, .slice A n c, .int .i64 d.left] 31)).alloc (.cells #[.slice none 0 0, .slice none 0 0, .int .i64 0] 31)) (w.heap.size + 1) 31 #[.slice none 0 0, .slice none 0 0, .int .i64 0] := Blk.new (by simp)
  have bw2 : Below w.heap.size w ((w.alloc (.cells #[.slice A1 d.dry.length c1, .slice A n c, .int .i64 d.left] 31)).alloc (.cells #[.slice none 0 0, .slice none 0 0, .int .i64 0] 31)) := by (repeat (first | with_reducible exact Below.refl _ _ | with_reducible assumption | with_reducible refine Below.drew ?_ | with_reducible refine bl_alloc ?_ _ | with_reducible refine bl_call ?_ (by assumption) | (focus (with_reducible refine Below.setCell ?_ ?_ _; rotate_left; focus (first | omega | (simp <;> omega)))) | fail))
  have hz2 : ((w.alloc (.cells #[.slice A1 d.dry.length c1, .slice A n c, .int .i64 d.left] 31)).alloc (.cells #[.slice none 0 0, .slice none 0 0, .int .i64 0] 31)).heap.size = w.heap.size + 2 := by simp
  generalize (w.alloc (.cells #[.slice A1 d.dry.length c1, .slice A n c, .int .i64 d.left] 31)).alloc (.cells #[.slice none 0 0, .slice none 0 0, .int .i64 0] 31) = w2 at *
  obtain ⟨g1, hg1⟩ : ∃ g1, g1 = w.heap.size := ⟨_, rfl⟩
  obtain ⟨g2, hg2⟩ : ∃ g2, g2 = w.heap.size + 1 := ⟨_, rfl⟩
  rw [← hg1] at K1
  rw [← hg2] at K2 ⊢
  rw [show Value.pointer (some { block := w.heap.size, off := 0 }) = Value.pointer (some { block := g1, off := 0 }) by rw [hg1]]
  have l1 := K1.lt
  have l12 : g1 < g2 := by omega
  have l0 : w.heap.size ≤ g1 := by omega
  have l22 : w2.heap.size = g2 + 1 := by omega
  have c10 := K1.cell 0
  have c12 := K1.cell 2
  simp at c10 c12
  have l22' : g2 < w2.heap.size := by omega
  replace K1 := hide K1; replace K2 := hide K2; replace bw2 := hide bw2; replace hz2 := hide hz2; replace hg1 := hide hg1; replace hg2 := hide hg2; replace l22 := hide l22
  go_cut [3] (fun s3 wx => ∃ (g3 : Nat) (A3 : Option Addr) (c3 : Nat), s3 = .pointer (some ⟨g3, 0, none⟩) ∧ Hid (Blk wx g3 31 #[.slice A3 d.dry.length c3, .slice none 0 0, .int .i64 d.left]) ∧ Hid (wx.ownsRow w.heap.size 5 1 (.slice A3 d.dry.length c3) d.dry.length (d.dry.map u8v)) ∧ Hid (Blk wx g1 31 #[.slice A1 d.dry.length c1, .slice A n c, .int .i64 d.left]) ∧ Hid (Blk wx g2 31 #[.slice none 0 0, .slice none 0 0, .int .i64 0]) ∧ Hid (Below w.heap.size w wx) ∧ g2 < g3)
  case first =>
    go_region_held3 (fun W => W.cell? ⟨g1, 0, none⟩ = some (.slice A1 d.dry.length c1) ∧ W.cell? ⟨g1, 2, none⟩ = some (.int .i64 d.left)) (first | exact ⟨by assumption, by assumption⟩ | exact ⟨by go_simp, by go_simp⟩) (first
      | (refine step_app_at rfl (.const (.slice none 0 0)) (.tmp 7) 28 rfl w.heap.size 5 i5 _ 1 1 Tryd.underlying28 hi5 jz0 jz1 jz2 rfl (Nat.succ_pos _) _ 0 [] rfl (World.ownsRow_nil _ _ _ _) A1 d.dry.length _ (d.dry.map u8v) rfl (unhide hxl) (unhide hsA' _ (by have q := unhide bw2; (repeat (first | with_reducible exact Below.refl _ _ | with_reducible assumption | with_reducible refine Below.drew ?_ | with_reducible refine bl_alloc ?_ _ | with_reducible refine bl_call ?_ (by assumption) | (focus (with_reducible refine Below.setCell ?_ ?_ _; rotate_left; focus (first | omega | (simp <;> omega)))) | fail)))) (unhide hx1) (unhide b1) (unhide b2) (by have := (unhide bw2).size; first | exact this | (simp; omega)) ?_
         intro v3 w3 ho3 hg3 hl3
         rw [Nat.zero_add, List.nil_append] at ho3
         obtain ⟨A3, c3, rfl⟩ := ownsRow_form ho3
         have K13 : Blk w3 g1 31 #[.slice A1 d.dry.length c1, .slice A n c, .int .i64 d.left] := Blk.grown9 (by first | exact (unhide K1).drew | exact ((unhide K1).alloc _).drew) hg3 (fun e => by cases e)
         have K23 : Blk w3 g2 31 #[.slice none 0 0, .slice none 0 0, .int .i64 0] := Blk.grown9 (by first | exact (unhide K2).drew | exact ((unhide K2).alloc _).drew) hg3 (fun e => by cases e)
         have hb3 : Below w.heap.size w w3 := bl_grown (by have q := unhide bw2; (repeat (first | with_reducible exact Below.refl _ _ | with_reducible assumption | with_reducible refine Below.drew ?_ | with_reducible refine bl_alloc ?_ _ | with_reducible refine bl_call ?_ (by assumption) | (focus (with_reducible refine Below.setCell ?_ ?_ _; rotate_left; focus (first | omega | (simp <;> omega)))) | fail))) hg3 (fun k hk => by cases hk)
         have e10 := K13.cell 0
         have e12 := K13.cell 2
         simp at e10 e12
         have m1 := K13.lt
         have m2 := K23.lt
         first
           | (have K33 : Blk w3 w2.heap.size 31 #[.slice none 0 0, .slice none 0 0, .int .i64 0] := Blk.grown9 (Blk.new rfl).drew hg3 (fun e => by cases e)
              have f0 := K33.frozen 0; have f1 := K33.frozen 1; have f2 := K33.frozen 2
              have d0 := K33.cell 0; have d1 := K33.cell 1; have d2 := K33.cell 2
              simp at d0 d1 d2
              have m3 := K33.lt
              replace K33 := hide K33)
           | skip
         replace ho3 := hide ho3; replace hg3 := hide hg3; replace K13 := hide K13; replace K23 := hide K23; replace hb3 := hide hb3; replace hl3 := hide hl3))
    all_goals
      go_wp2_with fail
      go_meet
      first
        | (obtain ⟨a1, a2, a3, a4, a5, a6⟩ := cutC (C3 := #[.slice A3 d.dry.length c3, .slice none 0 0, .int .i64 d.left]) (unhide K13) (unhide K23) (unhide ho3) (unhide hb3); exact ⟨_, _, _, rfl, hide a1, hide a2, hide a3, hide a4, hide a5, a6⟩)
        | (obtain ⟨a1, a2, a3, a4, a5, a6⟩ := cutD (x := .slice A3 d.dry.length c3) (y := .slice none 0 0) (z := .int .i64 d.left) (unhide K13) (unhide K23) (unhide K33) (unhide ho3) (unhide hb3) (by omega) (by omega) (by omega); exact ⟨_, _, _, rfl, hide a1, hide a2, hide a3, hide a4, hide a5, a6⟩)
  case rest =>
    clear K1 K2 bw2 c10 c12 l1 l22' hz2
    obtain ⟨g3, A3, c3, rfl, G, D, K1, Z, hb, l23⟩ := hcut
    have c11 := (unhide K1).cell 1
    simp at c11
    have y1 := (unhide K1).lt
    obtain ⟨B, hBz⟩ : ∃ B, B = wc.heap.size := ⟨_, rfl⟩
    have hwB : w.heap.size ≤ B := by rw [hBz]; exact (unhide hb).size
    have hBz' : B ≤ wc.heap.size := by omega
    have hDB : VBelow B (.slice A3 d.dry.length c3) := by rw [hBz]; exact own_vbelow (unhide D)
    have h3w : w.heap.size ≤ g3 := by have := unhide hg1; omega
    replace hBz := hide hBz; replace hDB := hide hDB
    go_wp2_with fail
    go_loopw [15] (fun i wr => ∃ (k : Nat) (A2 : Option Addr) (c2 : Nat) (cs : List Value), k ≤ n ∧ i = .int .i64 k ∧ Hid (Blk wr g3 31 #[.slice A3 d.dry.length c3, .slice A2 k c2, .int .i64 d.left]) ∧ Hid (wr.ownsRow B 56 2 (.slice A2 k c2) k cs) ∧ Hid (PgC wr B cs (d.wet.take k)) ∧ Hid (wr.ownsRow w.heap.size 5 1 (.slice A3 d.dry.length c3) d.dry.length (d.dry.map u8v)) ∧ Hid (Blk wr g2 31 #[.slice none 0 0, .slice none 0 0, .int .i64 0]) ∧ Hid (Below w.heap.size w wr) ∧ Hid (B ≤ wr.heap.size)) (fun i _ => n - (intOf i).toNat)
    case atStart => exact ⟨0, none, 0, [], Nat.zero_le _, rfl, G, hide (World.ownsRow_nil _ _ _ _), hide (fun j p h => by simp at h), D, Z, hb, hide hBz'⟩
    case round =>
      clear G D K1 Z hb c11 y1
      obtain ⟨k, A2, c2, cs, hk, rfl, G, R, C, D, Z, hb, hB⟩ := hrel
      by_cases hlt : k < n
      · have hlt' : k < d.wet.length := by rw [← unhide hn]; exact hlt
        obtain ⟨b, off, rfl, q1, q2⟩ := unhide hA (by omega)
        obtain ⟨cs', hcs', hcc, bv, rfl, hbv⟩ := unhide hcell b off rfl k hlt'
        have c0 := ((unhide hb).cell (p := ⟨b, off + k * 2 + 0, none⟩) q2).trans (hcc 0 (by simp))
        have c1 := ((unhide hb).cell (p := ⟨b, off + k * 2 + 1, none⟩) q2).trans (hcc 1 (by simp))
        simp only [List.getElem_cons_zero, List.getElem_cons_succ, Nat.add_zero] at c0 c1
        have hpl := unhide hP k _ (List.getElem?_eq_getElem hlt')
        have htk : d.wet.take (k + 1) = d.wet.take k ++ [d.wet[k]] := List.take_succ_eq_append_getElem hlt'
        have htl : (d.wet.take k).length = k := by rw [List.length_take]; omega
        obtain ⟨Ab, cb, e, _⟩ := id hbv
        subst e
        have hsp := fun W (h : Below w.heap.size w W) => hbv.src.2.below h
        generalize d.wet[k] = p at *
        have i1 : (0 : Int) ≤ (k : Int) := by omega
        have i3 : (k : Int) < (n : Int) := by omega
        have s1 : (p.b.map u8v).length = p.b.length * 1 := by simp
        have s2 := u8s_one p.b
        have s3 : 0 + p.b.length ≤ maxLen := by simp only [maxLen]; omega
        have s4 : (0 + p.b.length) * 1 ≤ 140737488355328 := by omega
        have s5 : k + 1 ≤ maxLen := by simp only [maxLen]; omega
        have s6 : (k + 1) * 32 ≤ 140737488355328 := by omega
        have y3 := (unhide G).lt
        have hs9 := (unhide hb).size
        clear hcc hcs' hbv hlt'
        replace hsp := hide hsp; replace htk := hide htk; replace htl := hide htl; replace s1 := hide s1; replace s2 := hide s2; replace s3 := hide s3; replace s4 := hide s4; replace s5 := hide s5; replace s6 := hide s6; replace hpl := hide hpl
        go_upto_region 5 with fail
        have P1 : Blk (wr.alloc (.cells #[.int .i64 p.at_, .slice Ab p.b.length cb] 56)) wr.heap.size 56 #[.int .i64 p.at_, .slice Ab p.b.length cb] := Blk.new rfl
        have G1 := (unhide G).alloc (.cells #[.int .i64 p.at_, .slice Ab p.b.length cb] 56)
        have R1 := (unhide R).alloc (.cells #[.int .i64 p.at_, .slice Ab p.b.length cb] 56)
        have W1 : Below w.heap.size w (wr.alloc (.cells #[.int .i64 p.at_, .slice Ab p.b.length cb] 56)) := bl_alloc (unhide hb) _
        have hstep := fun w5 w6 A5 c5 A6 c6 hg5 ho5 hg6 ho6 => copyStep (w := w) (wr := wr) (w5 := w5) (w6 := w6) (B := B) (g2 := g2) (g3 := g3) (n := d.dry.length) (k := k) (pl := p.b.length) (v := .slice A3 d.dry.length c3) (v2 := .slice A2 k c2) (v6 := .slice A6 (k + 1) c6) (A5 := A5) (c5 := c5) (l := .slice A3 d.dry.length c3) (left := .int .i64 d.left) (at_ := .int .i64 p.at_) (pb := p.b) (dry := d.dry) (cs := cs) (ps := d.wet.take k) (p := p) (P := .cells #[.int .i64 p.at_, .slice Ab p.b.length cb] 56) rfl (unhide htl) rfl rfl (unhide G) (unhide R) (unhide C) (unhide D) (unhide Z) (unhide hb) (unhide hB) hwB h3w (Nat.ne_of_lt l23) hg5 ho5 hg6 ho6
        have hBp : B ≤ (wr.alloc (.cells #[.int .i64 p.at_, .slice Ab p.b.length cb] 56)).heap.size := by have := unhide hB; simp; omega
        generalize wr.alloc (.cells #[.int .i64 p.at_, .slice Ab p.b.length cb] 56) = wp at *
        have e0 := P1.cell 0
        have e1 := P1.cell 1
        have e2 := G1.cell 1
        simp at e0 e1 e2
        have l0 := P1.lt
        have l3 := G1.lt
        generalize wr.heap.size = gp at *
        replace P1 := hide P1; replace G1 := hide G1; replace R1 := hide R1; replace W1 := hide W1; replace hstep := hide hstep
        clear c0 c1 q1 q2
        go_region_law (first
          | (refine step_app_at rfl (.const (.slice none 0 0)) (.tmp 24) 28 rfl B 5 i5 _ 1 1 Tryd.underlying28 hi5 jz0 jz1 jz2 rfl (Nat.succ_pos _) _ 0 [] rfl (World.ownsRow_nil _ _ _ _) Ab p.b.length _ (p.b.map u8v) rfl (unhide s1) (unhide hsp _ (by have q := unhide W1; (repeat (first | with_reducible exact Below.refl _ _ | with_reducible assumption | with_reducible refine Below.drew ?_ | with_reducible refine bl_alloc ?_ _ | with_reducible refine bl_call ?_ (by assumption) | (focus (with_reducible refine Below.setCell ?_ ?_ _; rotate_left; focus (first | omega | (simp <;> omega)))) | fail)))) (unhide s2) (unhide s3) (unhide s4) hBp ?_
             intro v5 w5 ho5 hg5 hl5
             rw [Nat.zero_add, List.nil_append] at ho5
             obtain ⟨A5, c5, rfl⟩ := ownsRow_form ho5
             replace hg5 : wp.drew.grownBy w5 none := hg5
             have P5 : Blk w5 gp 56 #[.int .i64 p.at_, .slice Ab p.b.length cb] := Blk.grown9 (unhide P1).drew hg5 (fun e => by cases e)
             have G5 : Blk w5 g3 31 #[.slice A3 d.dry.length c3, .slice A2 k c2, .int .i64 d.left] := Blk.grown9 (unhide G1).drew hg5 (fun e => by cases e)
             have f0 := P5.cell 0
             have f1 := P5.cell 1
             have f2 := G5.cell 1
             simp at f0 f1 f2
             have t0 := P5.lt
             have t3 := G5.lt
             have R5 := (own_grown9 (show wp.drew.ownsRow B 56 2 _ k cs from unhide R1) hg5 (fun _ _ e => by cases e)).alloc (.cells #[.int .i64 p.at_, .slice A5 p.b.length c5] 56)
             have G5a := G5.alloc (.cells #[.int .i64 p.at_, .slice A5 p.b.length c5] 56)
             have S5 : SrcOk (w5.alloc (.cells #[.int .i64 p.at_, .slice A5 p.b.length c5] 56)) (some ⟨w5.heap.size, 0, none⟩) 1 [.int .i64 p.at_, .slice A5 p.b.length c5] := SrcOk.blk (cur := [.int .i64 p.at_, .slice A5 p.b.length c5]) (Blk.new rfl) fun j u hu => by simpa using hu
             have z5 : B ≤ (w5.alloc (.cells #[.int .i64 p.at_, .slice A5 p.b.length c5] 56)).heap.size := by have := hg5.size; simp at this ⊢; omega
             have o5 : ∀ u ∈ [Value.int .i64 p.at_, .slice A5 p.b.length c5], u.oneCell' = true := by intro u hu; simp at hu; rcases hu with rfl | rfl <;> rfl
             replace ho5 := hide ho5; replace hg5 := hide hg5; replace hl5 := hide hl5; replace P5 := hide P5; replace G5 := hide G5; replace R5 := hide R5; replace G5a := hide G5a; replace S5 := hide S5; replace o5 := hide o5)
          | (refine step_app_at rfl (.tmp 20) (.tmp 27) 29 rfl B 56 i0 _ 2 32 Tryd.underlying29 hi0 iz0 iz1 iz2 rfl (Nat.succ_pos _) _ k cs rfl (unhide R5) (some ⟨w5.heap.size, 0, none⟩) 1 _ [.int .i64 p.at_, .slice A5 p.b.length c5] rfl rfl (unhide S5) (unhide o5) (unhide s5) (unhide s6) z5 ?_
             intro v6 w6 ho6 hg6 hl6
             obtain ⟨A6, c6, rfl⟩ := ownsRow_form ho6
             have G6 : Blk w6 g3 31 #[.slice A3 d.dry.length c3, .slice A2 k c2, .int .i64 d.left] := Blk.grown9 (unhide G5a) hg6 (own_ne9 (unhide R5) (unhide G5a) (by decide))
             have r0 := G6.frozen 1
             have r1 := G6.cell 1
             simp at r1
             have t6 := G6.lt
             replace ho6 := hide ho6; replace hg6 := hide hg6; replace hl6 := hide hl6; replace G6 := hide G6))
        all_goals go_wp2_with fail
        all_goals go_roundw
        all_goals first
          | (obtain ⟨m1, m2, m3, m4, m5, m6, m7⟩ := unhide hstep w5 w6 A5 c5 A6 c6 (unhide hg5) (unhide ho5) (unhide hg6) (unhide ho6)
             rw [← unhide htk] at m3
             exact ⟨k + 1, A6, c6, _, by omega, by go_num, hide m1, hide m2, hide m3, hide m4, hide m5, hide m6, hide m7⟩)
          | (simp [intOf]; omega)
      · obtain rfl : k = n := by omega
        have G0 := (unhide G).cell 0
        have G1 := (unhide G).cell 1
        have G2 := (unhide G).cell 2
        simp at G0 G1 G2
        have y3 := (unhide G).lt
        have z0 := (unhide Z).frozen 0
        have z1 := (unhide Z).frozen 1
        have z2 := (unhide Z).frozen 2
        have z3 := (unhide Z).cell 0
        have z4 := (unhide Z).cell 1
        have z5 := (unhide Z).cell 2
        simp at z3 z4 z5
        have y2 := (unhide Z).lt
        have hg2' := unhide hg2
        have hw2 : w.heap.size ≤ g2 := by omega
        clear hg2'
        go_wp2_with fail
        have hset := fun base v n xs (h : wr.ownsRow base 5 1 v n xs) => own_set3 (x := .slice A3 d.dry.length c3) (y := .slice A2 k c2) (z := .int .i64 d.left) h (unhide Z) (by decide)
        have hset41 := fun base v n xs (h : wr.ownsRow base 56 2 v n xs) => own_set3 (x := .slice A3 d.dry.length c3) (y := .slice A2 k c2) (z := .int .i64 d.left) h (unhide Z) (by decide)
        have hn' := unhide hn
        subst hn'
        refine ret_disk rfl g2 #[.slice A3 d.dry.length c3, .slice A2 d.wet.length c2, .int .i64 d.left] rfl rfl (unhide Z).set3 rfl ⟨_, rfl, ⟨A3, c3, A2, c2, B, rfl, hset _ _ _ _ (unhide D), unhide hDB, hwB, by have := unhide hB; simpa using this, ?_⟩, ?_⟩
        · refine Pgs.of_own (cs := cs) (hset41 _ _ _ _ (unhide R)) fun j p hj => ?_
          have hC := unhide C
          rw [List.take_length] at hC
          obtain ⟨bv, a, b, c⟩ := hC j p hj
          exact ⟨bv, a, b, Bs.of_own (hset _ _ _ _ c)⟩
        · exact (((unhide hb).setCell hw2 _).setCell hw2 _).setCell hw2 _
end Go.Proofs.YtommlgdolahfbaaDoor
