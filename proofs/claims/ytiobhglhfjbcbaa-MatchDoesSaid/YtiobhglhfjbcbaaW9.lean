import Derived.Test.YtiobhglhfjbcbaaW8
namespace Go.Proofs.Ytiobhglhfjbcbaa
open Go.RowKit

/-- What Text answers. -/
def textR (l : List Tok) (most : Int) : List UInt8 × Int :=
  if okB l = false then ([], 1) else if most < 0 then ([], 1) else if sumT l ≤ most ∧ sumT l ≤ 65536 then (textF [] l, 0) else ([], 3)
theorem ret_si {A : Option Addr} {n c : Nat} {a b : Int} (h : a = b) : Ending.returned (.tuple #[.slice A n c, .int .i64 a]) = .returned (.tuple #[.slice A n c, .int .i64 b]) := by rw [h]

set_option maxHeartbeats 2000000 in
theorem Text_any (lo : Nat) (v : Value) (l : List Tok) (most : Int) (bs : List UInt8) (er : Int) (w : World) (h : Tks lo w.heap.size w v l) (hr : textR l most = (bs, er)) :
    Calls Try.prog 16 #[v, .int .i64 most] w fun e w' => ∃ A n c, e = .returned (.tuple #[.slice A n c, .int .i64 er]) ∧ w'.ownsRow w.heap.size 5 1 (.slice A n c) n (bs.map u8v) ∧ Below w.heap.size w w' := by
  obtain ⟨i0, hi0, iz0, iz1, iz2⟩ := info_parts info5
  have hlg := Long_any lo v l w h
  obtain ⟨A, c, rfl, h1, h2, h3⟩ := h.open
  clear h
  cases hok : okB l with
  | false =>
    rw [textR, if_pos hok] at hr
    injection hr with r1 r2
    subst r1 r2
    rw [hok] at hlg
    change Calls Try.prog 18 #[.slice A l.length c] w fun e w' => e = .returned (.tuple #[.int .i64 (longN l), .int .i64 1]) ∧ Below w.heap.size w w' at hlg
    replace hlg := hide hlg; replace hok := hide hok; replace h3 := hide h3
    go_enter Try.func16, Try.ntmps16
    go_wp2_with (go_at_call 18; refine (unhide hlg).mono ?_; rintro e w1 ⟨rfl, hb1⟩)
    go_ret2
    exact ⟨none, 0, 0, rfl, World.ownsRow_nil _ _ _ _, hb1⟩
  | true =>
    rw [textR, if_neg (by rw [hok]; decide)] at hr
    obtain ⟨o1, o2⟩ := okB_iff.1 hok
    have hs := okL_sum o2
    have hln : longN l = sumT l := by simp [longN, hok]
    rw [hok, hln] at hlg
    change Calls Try.prog 18 #[.slice A l.length c] w fun e w' => e = .returned (.tuple #[.int .i64 (sumT l), .int .i64 0]) ∧ Below w.heap.size w w' at hlg
    have hsl : sumT (l.take l.length) = sumT l := by rw [List.take_length]
    have htl : textF [] (l.take l.length) = textF [] l := by rw [List.take_length]
    generalize hS : sumT l = S at *
    obtain ⟨s1, s2⟩ := hs
    by_cases hm : most < 0
    · rw [if_pos hm] at hr
      injection hr with r1 r2
      subst r1 r2
      replace hlg := hide hlg; replace hok := hide hok; replace h3 := hide h3; replace hS := hide hS; replace hsl := hide hsl; replace htl := hide htl
      go_enter Try.func16, Try.ntmps16
      go_wp2_with (go_at_call 18; refine (unhide hlg).mono ?_; rintro e w1 ⟨rfl, hb1⟩)
      go_ret2
      exact ⟨none, 0, 0, rfl, World.ownsRow_nil _ _ _ _, hb1⟩
    · rw [if_neg hm] at hr
      by_cases hc : S ≤ most ∧ S ≤ 65536
      · rw [if_pos hc] at hr
        injection hr with r1 r2
        subst r1 r2
        obtain ⟨c1, c2⟩ := hc
        obtain ⟨N, hN⟩ : ∃ N : Nat, S = N := ⟨S.toNat, by omega⟩
        have hmk0 := fun W : World => run_make (P := Try.prog) W 22 5 i0 _ Try.underlying22 hi0 iz0 .i64 .i64 0 S (by omega) (by omega) (by rw [iz2]; omega) (by omega)
        have hmk : ∃ C : Array Value, C.size = N ∧ ∀ W : World, (Instr.makeSlice 22 (.int .i64 0) (.int .i64 S)).run Try.prog W = .ok (.slice (some ⟨W.heap.size, 0, none⟩) 0 N) (W.alloc (.cells C 5)) := by
          refine ⟨madeCells (Value.int .u8 0).cells (S.toNat * i0.size), ?_, fun W => ?_⟩
          · rw [hN, Int.toNat_natCast, iz1]; simp [madeCells]
          · rw [hmk0 W, hN, Int.toNat_natCast]; rfl
        obtain ⟨C, hC, hmk⟩ := hmk
        have hown0 : ∀ W : World, Below w.heap.size w W → (W.alloc (.cells C 5)).ownsRow w.heap.size 5 1 (.slice (some ⟨W.heap.size, 0, none⟩) 0 N) 0 [] := fun W hb => own_fresh W _ _ 5 1 N C rfl hb.size (by simp only [maxLen]; omega) (by omega)
        replace hN := hide hN; replace hC := hide hC; replace hown0 := hide hown0; replace o2 := hide o2
        replace hlg := hide hlg; replace hok := hide hok; replace h3 := hide h3; replace hS := hide hS; replace hsl := hide hsl; replace htl := hide htl
        clear hmk0 hln
        have g1 : ¬ most < S := by omega
        have g2 : ¬ 65536 < S := by omega
        go_enter Try.func16, Try.ntmps16
        go_wp2_with (go_at_call 18; refine (unhide hlg).mono ?_; rintro e w1 ⟨rfl, hb1⟩)
        all_goals
          replace hmk := hide hmk
          go_loopw [8, 29] (fun s8 i wr => ∃ (k m : Nat) (A2 : Option Addr) (c2 : Nat), k ≤ l.length ∧ i = .int .i64 k ∧ s8 = .slice A2 m c2 ∧ Hid ((m : Int) = sumT (l.take k)) ∧ m ≤ 18 * k ∧ Hid (wr.ownsRow w.heap.size 5 1 (.slice A2 m c2) m ((textF [] (l.take k)).map u8v)) ∧ Hid (Below w.heap.size w wr)) (fun _ i _ => l.length - (intOf i).toNat)
          case atStart => exact ⟨0, 0, _, _, Nat.zero_le _, rfl, rfl, hide rfl, Nat.le_refl _, hide (unhide hown0 w1 hb1), hide (by (repeat (first | with_reducible exact Below.refl _ _ | with_reducible assumption | with_reducible refine Below.drew ?_ | with_reducible refine bl_alloc ?_ _ | with_reducible refine bl_call ?_ (by assumption) | (focus (with_reducible refine Below.setCell ?_ ?_ _; rotate_left; focus (first | omega | (simp <;> omega)))) | fail)))⟩
          case round =>
            obtain ⟨k, m, A2, c2, hk, rfl, rfl, hm1, hm2, ho, hb⟩ := hrel
            by_cases hlt : k < l.length
            · obtain ⟨b, off, rfl, x1, x2, q0, q1, q2⟩ := unhide h3 k hlt
              have c0 := ((unhide hb).cell (p := ⟨b, off + k * 3, none⟩) x2).trans q0
              have c1 := ((unhide hb).cell (p := ⟨b, off + k * 3 + 1, none⟩) x2).trans q1
              have c2' := ((unhide hb).cell (p := ⟨b, off + k * 3 + 2, none⟩) x2).trans q2
              obtain ⟨t1, t2⟩ := okL_get hlt (unhide o2)
              have t3 := okT_size t1
              have hsn := sumT_snoc hlt
              have htx := textF_snoc (b := []) hlt
              have hbs := (unhide hb).size
              rw [Int.zero_add, ← unhide hm1] at t2
              rw [← unhide hm1] at hsn
              have htell := fun W (hbb : Below wr.heap.size wr W) => tell_any w.heap.size A2 m c2 (textF [] (l.take k)) l[k] W (own_below (unhide ho) hbb (Nat.le_refl _)) (Nat.le_trans hbs hbb.size) t1 t2 (by omega)
              rw [← htx] at htell
              unfold tkV at htell
              generalize l[k] = t at *
              clear q0 q1 q2 x1 x2 htx t1 t2
              replace htell := hide htell; replace hsn := hide hsn; replace hbs := hide hbs
              go_wp2_with (go_at_call 27; refine (unhide htell _ (by (repeat (first | with_reducible exact Below.refl _ _ | with_reducible assumption | with_reducible refine Below.drew ?_ | with_reducible refine bl_alloc ?_ _ | with_reducible refine bl_call ?_ (by assumption) | (focus (with_reducible refine Below.setCell ?_ ?_ _; rotate_left; focus (first | omega | (simp <;> omega)))) | fail)))).mono ?_; rintro e w2 ⟨A3, n3, c3, rfl, hn3, ho3, hb3⟩; replace hn3 := hide hn3; replace ho3 := hide ho3)
              go_roundw
              case rel => exact ⟨k + 1, n3, A3, c3, by omega, by go_num, rfl, hide (by rw [unhide hsn]; exact unhide hn3), by have := unhide hn3; omega, hide (unhide ho3), hide (((unhide hb).alloc (unhide hbs) _).trans hb3)⟩
              case measure => simp [intOf]; omega
            · obtain rfl : k = l.length := by omega
              go_wp2_with fail
              go_ret2
              have ho' := unhide ho
              rw [unhide htl] at ho'
              exact ⟨A2, m, c2, rfl, ho', unhide hb⟩
      · rw [if_neg hc] at hr
        injection hr with r1 r2
        subst r1 r2
        replace hlg := hide hlg; replace hok := hide hok; replace h3 := hide h3; replace hS := hide hS; replace hsl := hide hsl; replace htl := hide htl
        replace hc := hide hc
        go_enter Try.func16, Try.ntmps16
        go_wp2_with (go_at_call 18; refine (unhide hlg).mono ?_; rintro e w1 ⟨rfl, hb1⟩)
        all_goals (have hc' := unhide hc; first | (exfalso; omega) | skip)
        all_goals go_ret2
        all_goals exact ⟨none, 0, 0, rfl, World.ownsRow_nil _ _ _ _, hb1⟩
end Go.Proofs.Ytiobhglhfjbcbaa
