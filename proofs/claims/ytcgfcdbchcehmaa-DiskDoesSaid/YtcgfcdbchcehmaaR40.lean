import Derived.Test.YtcgfcdbchcehmaaW13
namespace Go.Proofs.Ytcgfcdbchcehmaa
open Go.RowKit

theorem sameb_true (lo hi lo' hi' : Nat) (v1 v2 : Value) (a : List UInt8) (w : World) (h1 : Bs lo hi w v1 a) (h2 : Bs lo' hi' w v2 a) : Calls Try.prog 23 #[v1, v2] w fun e w' => e = .returned (.bool true) ∧ w = w' := by
  have := sameb_any lo hi lo' hi' v1 v2 a a w h1 h2
  simpa using this

set_option maxHeartbeats 4000000 in
theorem refsame_true (lo lo' : Nat) (v1 v2 : Value) (d : Dk) (w : World) (h1 : Dsk lo w.heap.size w v1 d) (h2 : Dsk lo' w.heap.size w v2 d) (hL : d.wet.length ≤ 1000000) :
    Calls Try.prog 22 #[v1, v2] w fun e w' => e = .returned (.bool true) ∧ Below w.heap.size w w' := by
  obtain ⟨va, vb, rfl, ha, hb⟩ := h1
  obtain ⟨va', vb', rfl, ha', hb'⟩ := h2
  have hsb : ∀ W, Below w.heap.size w W → Calls Try.prog 23 #[va, va'] W fun e w' => e = .returned (.bool true) ∧ W = w' :=
    fun W hB => sameb_true _ _ _ _ va va' d.dry W (ha.below hB (Nat.le_refl _)) (ha'.below hB (Nat.le_refl _))
  obtain ⟨A1, c1, rfl, _⟩ := ha
  obtain ⟨A2, c2, rfl, _⟩ := ha'
  obtain ⟨A, c, rfl, hlc, hc, hA, hcell⟩ := hb
  obtain ⟨A', c', rfl, hlc', hc', hA', hcell'⟩ := hb'
  obtain ⟨n, hn⟩ : ∃ n, n = d.wet.length := ⟨_, rfl⟩
  rw [← hn] at hlc hlc' hL ⊢
  replace hA := hide hA; replace hcell := hide hcell; replace hA' := hide hA'; replace hcell' := hide hcell'; replace hn := hide hn; replace hsb := hide hsb
  go_enter Try.func22, Try.ntmps22
  go_wp2_with (first
    | (go_at_call 23; refine (unhide hsb _ (by (repeat (first | with_reducible exact Below.refl _ _ | with_reducible assumption | with_reducible refine Below.drew ?_ | with_reducible refine bl_alloc ?_ _ | with_reducible refine bl_call ?_ (by assumption) | (focus (with_reducible refine Below.setCell ?_ ?_ _; rotate_left; focus (first | omega | (simp <;> omega)))) | fail)))).mono ?_; rintro e w1 ⟨rfl, rfl⟩)
    | fail)
  go_loopw [31] (fun i wr => ∃ k : Nat, k ≤ n ∧ i = .int .i64 k ∧ Hid (Blk wr w.heap.size 25 #[.slice A1 d.dry.length c1, .slice A n c, .int .i64 d.left]) ∧ Hid (Blk wr (w.heap.size + 1) 25 #[.slice A2 d.dry.length c2, .slice A' n c', .int .i64 d.left]) ∧ Hid (Below w.heap.size w wr)) (fun i _ => n - (intOf i).toNat)
  case atStart => exact ⟨0, by omega, rfl, (Blk.new rfl).alloc _, Blk.new (by simp), (by (repeat (first | with_reducible exact Below.refl _ _ | with_reducible assumption | with_reducible refine Below.drew ?_ | with_reducible refine bl_alloc ?_ _ | with_reducible refine bl_call ?_ (by assumption) | (focus (with_reducible refine Below.setCell ?_ ?_ _; rotate_left; focus (first | omega | (simp <;> omega)))) | fail)) : Below _ _ _)⟩
  case round =>
    obtain ⟨k, hk, rfl, k1, k2, hbl⟩ := hrel
    have x0 : wr.cell? ⟨w.heap.size, 0, none⟩ = some (.slice A1 d.dry.length c1) := ((unhide k1).cell 0).trans rfl
    have x1 : wr.cell? ⟨w.heap.size, 1, none⟩ = some (.slice A n c) := ((unhide k1).cell 1).trans rfl
    have z0 : wr.cell? ⟨w.heap.size + 1, 0, none⟩ = some (.slice A2 d.dry.length c2) := ((unhide k2).cell 0).trans rfl
    have z1 : wr.cell? ⟨w.heap.size + 1, 1, none⟩ = some (.slice A' n c') := ((unhide k2).cell 1).trans rfl
    by_cases hlt : k < n
    · have hlt' : k < d.wet.length := by rw [← unhide hn]; exact hlt
      obtain ⟨b, off, rfl, q1, q2⟩ := unhide hA (by omega)
      obtain ⟨b', off', rfl, q1', q2'⟩ := unhide hA' (by omega)
      obtain ⟨cs, hcs, hcc, bv, rfl, hbv⟩ := unhide hcell b off rfl k hlt'
      obtain ⟨cs', hcs', hcc', bv', rfl, hbv'⟩ := unhide hcell' b' off' rfl k hlt'
      have c0 := ((unhide hbl).cell (p := ⟨b, off + k * 2 + 0, none⟩) q2).trans (hcc 0 (by simp))
      have c1 := ((unhide hbl).cell (p := ⟨b, off + k * 2 + 1, none⟩) q2).trans (hcc 1 (by simp))
      have d0 := ((unhide hbl).cell (p := ⟨b', off' + k * 2 + 0, none⟩) q2').trans (hcc' 0 (by simp))
      have d1 := ((unhide hbl).cell (p := ⟨b', off' + k * 2 + 1, none⟩) q2').trans (hcc' 1 (by simp))
      simp only [List.getElem_cons_zero, List.getElem_cons_succ, Nat.add_zero] at c0 c1 d0 d1
      have hsp : ∀ W, Below w.heap.size w W → Calls Try.prog 23 #[bv, bv'] W fun e w' => e = .returned (.bool true) ∧ W = w' :=
        fun W hB => sameb_true _ _ _ _ bv bv' d.wet[k].b W (hbv.below hB (Nat.le_refl _)) (hbv'.below hB (Nat.le_refl _))
      obtain ⟨Ab, cb, rfl, _⟩ := hbv
      obtain ⟨Ab', cb', rfl, _⟩ := hbv'
      generalize d.wet[k] = p at *
      have i1 : (0 : Int) ≤ (k : Int) := by omega
      have i3 : (k : Int) < (n : Int) := by omega
      have hb0 := unhide hbl; have k1' := unhide k1; have k2' := unhide k2
      replace hsp := hide hsp
      clear hcc hcc' hcs hcs'
      go_wp2_with fail
      go_region_held3 (fun W => W.cell? ⟨w.heap.size, 1, none⟩ = some (.slice (some ⟨b, off, none⟩) n c) ∧ W.cell? ⟨w.heap.size + 1, 1, none⟩ = some (.slice (some ⟨b', off', none⟩) n c') ∧ W.cell? ⟨b, off + k * 2, none⟩ = some (.int .i64 p.at_) ∧ W.cell? ⟨b, off + k * 2 + 1, none⟩ = some (.slice Ab p.b.length cb) ∧ W.cell? ⟨b', off' + k * 2, none⟩ = some (.int .i64 p.at_) ∧ W.cell? ⟨b', off' + k * 2 + 1, none⟩ = some (.slice Ab' p.b.length cb')) (first | exact ⟨by go_simp, by go_simp, by go_simp, by go_simp, by go_simp, by go_simp⟩)
        (first
          | (go_at_call 23; refine (unhide hsp _ (by (repeat (first | with_reducible exact Below.refl _ _ | with_reducible assumption | with_reducible refine Below.drew ?_ | with_reducible refine bl_alloc ?_ _ | with_reducible refine bl_call ?_ (by assumption) | (focus (with_reducible refine Below.setCell ?_ ?_ _; rotate_left; focus (first | omega | (simp <;> omega)))) | fail)))).mono ?_; rintro e w4 ⟨rfl, rfl⟩))
      go_wp2_with fail
      go_roundw
      case rel => exact ⟨k + 1, by omega, by go_num, (by (repeat (first | with_reducible assumption | (focus (with_reducible refine Blk.new ?_; focus (simp <;> fail))) | with_reducible refine Blk.set3 (a := .slice none 0 0) (b := .slice none 0 0) (c := .int .i64 0) ?_ | with_reducible refine Blk.alloc ?_ _ | with_reducible refine Blk.drew ?_ | (focus (with_reducible refine Blk.far ?_ ?_ _; rotate_left; focus (first | omega | (simp <;> omega)))) | (focus (with_reducible refine Blk.below ?_ hb1 ?_; rotate_left; focus (first | omega | (simp <;> omega)))) | fail)) : Blk _ _ _ _), (by (repeat (first | with_reducible assumption | (focus (with_reducible refine Blk.new ?_; focus (simp <;> fail))) | with_reducible refine Blk.set3 (a := .slice none 0 0) (b := .slice none 0 0) (c := .int .i64 0) ?_ | with_reducible refine Blk.alloc ?_ _ | with_reducible refine Blk.drew ?_ | (focus (with_reducible refine Blk.far ?_ ?_ _; rotate_left; focus (first | omega | (simp <;> omega)))) | (focus (with_reducible refine Blk.below ?_ hb1 ?_; rotate_left; focus (first | omega | (simp <;> omega)))) | fail)) : Blk _ _ _ _), (by (repeat (first | with_reducible exact Below.refl _ _ | with_reducible assumption | with_reducible refine Below.drew ?_ | with_reducible refine bl_alloc ?_ _ | with_reducible refine bl_call ?_ (by assumption) | (focus (with_reducible refine Below.setCell ?_ ?_ _; rotate_left; focus (first | omega | (simp <;> omega)))) | fail)) : Below _ _ _)⟩
      case measure => simp [intOf]; omega
    · have hb0 := unhide hbl
      go_wp2_with fail
      go_ret
      exact ⟨rfl, hb0⟩

end Go.Proofs.Ytcgfcdbchcehmaa
