import Derived.Test.YtdnahdogohdmjaaW12
namespace Go.Proofs.Ytdnahdogohdmjaa
open Go.RowKit
set_option maxRecDepth 100000

theorem insertion_nil (w : World) : Calls Try.prog 39 #[.slice none 0 0, .int .i64 0, .int .i64 0, fV] w fun e w' => e = .returned (.tuple #[]) ∧ w = w' := by
  go_enter Try.func39, Try.ntmps39
  go_wp2
  refine wp_loop_rounds 1 ?_
  rw [rounds_succ]
  go_wp2
  all_goals first | (exfalso; omega) | (go_end0; exact ⟨rfl, rfl⟩)
theorem stable_nil (w : World) : Calls Try.prog 38 #[.slice none 0 0, .int .i64 0, fV] w fun e w' => e = .returned (.tuple #[]) ∧ w = w' := by
  have h := fun W => insertion_nil W
  replace h := hide h
  go_enter Try.func38, Try.ntmps38
  go_wp2
  refine wp_loop_rounds 1 ?_
  rw [rounds_succ]
  go_wp2_with (go_at_call 39; refine (unhide h _).mono ?_; rintro ez w2 ⟨rfl, rfl⟩)
  refine wp_loop_rounds 1 ?_
  rw [rounds_succ]
  go_wp2
  all_goals first | (exfalso; omega) | (go_end0; exact ⟨rfl, rfl⟩)
theorem sort_nil (w : World) : Calls Try.prog 36 #[.slice none 0 0, fV] w fun e w' => e = .returned (.tuple #[]) ∧ w = w' := by
  have h := fun W => stable_nil W
  replace h := hide h
  go_enter Try.func36, Try.ntmps36
  go_wp2_with (go_at_call 38; refine (unhide h _).mono ?_; rintro ez w2 ⟨rfl, rfl⟩)
  all_goals go_end0
  all_goals exact ⟨rfl, rfl⟩
theorem sort_any (g : Nat) (sp : List Value) (d : List Nat) (c : Nat) (w : World) (h : Row g sp w w d) (hs : Small d) (hl : d.length < 1099511627776) :
    Calls Try.prog 36 #[.slice (some ⟨g, 0, none⟩) d.length c, fV] w fun e w' => e = .returned (.tuple #[]) ∧ ∃ d', Mix 0 d.length d d' ∧ Srt d' 0 d.length ∧ Row g sp w w' d' := by
  have hS := fun (W : World) (h : Row g sp W W d) => stable_any g sp d c W h hs hl
  obtain ⟨n, hn⟩ : ∃ n, n = d.length := ⟨_, rfl⟩
  rw [← hn] at hS ⊢
  replace h := hide h; replace hS := hide hS
  clear hs hl hn
  go_enter Try.func36, Try.ntmps36
  go_wp2_with (go_at_call 38; refine (unhide hS _ (unhide h).self).mono ?_; rintro ez w2 ⟨rfl, hd⟩; replace hd := hide hd)
  all_goals go_end0
  all_goals exact ⟨rfl, unhide hd⟩
/-- What is in order. -/
def Ordered (l d : List Nat) : Prop := d.length = l.length ∧ d.Perm l ∧ Srt d 0 d.length ∧ Small d
set_option maxHeartbeats 1000000 in
theorem Order_any (lo : Nat) (v : Value) (l : List Nat) (w : World) (h : Fs lo w.heap.size w v l) (hs : Small l) (hL : l.length ≤ 1000000) :
    Calls Try.prog 21 #[v] w fun e w' => ∃ v' d, e = .returned v' ∧ w'.ownsRow w.heap.size 22 1 v' d.length (d.map (Value.float .f64)) ∧ Ordered l d ∧ Below w.heap.size w w' := by
  have hc := clone_any lo v l w h hL
  have hnil := fun W => sort_nil W
  have hsort := fun (g : Nat) (sp : List Value) (c : Nat) (W : World) (h : Row g sp W W l) => sort_any g sp l c W h hs (by omega)
  obtain ⟨n, hn⟩ : ∃ n, n = l.length := ⟨_, rfl⟩
  obtain ⟨A, c, rfl, _⟩ := h
  rw [← hn] at hc hsort ⊢
  replace hs := hide hs; replace hc := hide hc; replace hnil := hide hnil; replace hsort := hide hsort
  clear hL
  replace hn := hide hn
  go_enter Try.func21, Try.ntmps21
  go_wp2_with (go_at_call 35; refine (unhide hc).mono ?_; rintro ez w1 ⟨v', rfl, ho, hb⟩; replace ho := hide ho; replace hb := hide hb)
  have ho2 := unhide ho
  rw [unhide hn] at ho2
  rcases own_row ho2 with ⟨rfl, h0⟩ | ⟨g, c2, sp, rfl, h1, h2, h3, h4, h5⟩
  · replace h0 := hide h0
    clear ho2
    go_wp2_with (go_at_call 36; refine (unhide hnil _).mono ?_; rintro ez w2 ⟨rfl, rfl⟩)
    all_goals go_ret
    all_goals
      have h0' := unhide h0
      subst h0'
      exact ⟨_, [], rfl, World.ownsRow_nil _ _ _ _, ⟨rfl, .refl _, Srt.short _ (by simp), unhide hs⟩, unhide hb⟩
  · rw [← unhide hn] at h2 h5 ⊢
    replace h2 := hide h2; replace h3 := hide h3; replace h4 := hide h4; replace h5 := hide h5; replace h1 := hide h1
    clear ho2 ho
    go_wp2_with (go_at_call 36; refine (unhide hsort g sp c2 _ (unhide h4)).mono ?_; rintro ez w2 ⟨rfl, d, m1, s1, r1⟩; replace m1 := hide m1; replace s1 := hide s1; replace r1 := hide r1)
    all_goals go_ret
    all_goals
      have e1 : d.length = n := (unhide m1).len.trans (unhide hn).symm
      have q := (unhide r1).own (base := w.heap.size) (c := c2) (unhide h1) (by rw [e1]; exact unhide h2) (unhide h3) (by rw [e1]; exact unhide h5)
      rw [e1] at q
      exact ⟨_, d, rfl, by rw [e1]; exact q, ⟨by rw [e1]; exact unhide hn, (unhide m1).perm, by rw [e1]; exact unhide s1, (unhide hs).mix (unhide m1)⟩, (unhide hb).trans ((unhide r1).only.below (unhide h1))⟩
end Go.Proofs.Ytdnahdogohdmjaa
