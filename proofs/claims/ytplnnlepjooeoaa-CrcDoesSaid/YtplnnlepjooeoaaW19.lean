import Derived.Test.YtplnnlepjooeoaaW18
namespace Go.Proofs.Ytplnnlepjooeoaa
open Go.RowKit

theorem ropen_short (A : Option Addr) (n c : Nat) (w : World) (h : n < 4) :
    Calls Try.prog 9 #[.slice A n c] w fun e w' => e = .returned (.tuple #[.slice none 0 0, .int .i64 2]) ∧ w = w' := by
  have h' : (n : Int) < 4 := by omega
  go_enter Try.func9, Try.ntmps9
  go_wp2
  go_ret2
  exact ⟨rfl, rfl⟩

/-- What stands behind the text is its sum: the whole is the text sealed. -/
theorem okO_whole {l : List UInt8} {m : Nat} (h : l.length = m + 4) : (sealL (l.take m) = l) ↔ okO l m = true := by
  rw [okO_iff h]
  unfold sealL
  constructor
  · intro he
    have hlen : (l.take m).length = m := by simp; omega
    conv => lhs; rw [← he]
    rw [List.drop_left' hlen]
  · intro he
    rw [← he, List.take_append_drop]

set_option maxHeartbeats 2000000 in
theorem ropen_any (lo m : Nat) (v : Value) (l : List UInt8) (w : World) (h : Bs lo w.heap.size w v l) (hm : l.length = m + 4) (hL : m ≤ 900000) :
    Calls Try.prog 9 #[v] w fun e w' => ∃ A c er, e = .returned (.tuple #[.slice A (if okO l m then m else 0) c, .int .i64 er]) ∧ er = (if okO l m then 0 else 7) ∧
      w'.ownsRow w.heap.size 5 1 (.slice A (if okO l m then m else 0) c) (if okO l m then m else 0) ((l.take (if okO l m then m else 0)).map u8v) ∧ Below w.heap.size w w' := by
  obtain ⟨i0, hi0, hz0, hz1, hz2⟩ := info_parts info5
  obtain ⟨A, c, rfl, h1, h2, h3⟩ := h.openN hm
  obtain ⟨b, off, rfl, q1, q2, _⟩ := h3 m (by omega)
  have hlen : (l.take m).length = m := by simp; omega
  have hT : Bs lo w.heap.size w (.slice (some ⟨b, off, none⟩) m c) (l.take m) := by
    refine ⟨_, c, by rw [hlen], by omega, h2, fun _ => ⟨b, off, rfl, q1, q2, fun i hi => ?_⟩⟩
    obtain ⟨_, _, e, _, _, ci⟩ := h3 i (by omega)
    cases e
    rw [ci]
    have hi' : i < m := by omega
    simp [List.getD_eq_getElem?_getD, show i < l.length by omega]
  have hseal := fun W (hb : Below w.heap.size w W) => rseal_any lo _ _ W ((hT.below hb (Nat.le_refl _)).mono (Nat.le_refl _) hb.size) (by omega)
  rw [hlen] at hseal
  have hconv := fun W (hb : Below w.heap.size w W) => (h.below hb (Nat.le_refl _)).convert
  have hs : ((strU (sealL (l.take m))).toList == (strU l).toList) = okO l m := by
    have e1 : (strU (sealL (l.take m))).toList = _ := strU_toList _
    have e2 : (strU l).toList = _ := strU_toList l
    rw [e1, e2, Bool.eq_iff_iff, beq_iff_eq, okO_whole hm]
  have hcv := h.convert
  have hcd := hconv w.drew (Below.drew (Below.refl _ _))
  have hsrcT := hT.src.2
  have hx1 : ((l.take m).map u8v).length = m * 1 := by rw [List.length_map, hlen, Nat.mul_one]
  have hx2 := u8s_one (l.take m)
  have hb1 : 0 + m ≤ maxLen := by simp only [maxLen]; omega
  have hb2 : (0 + m) * 1 ≤ 140737488355328 := by omega
  have i1 : ¬ ((m : Int) + 4 < 4) := by omega
  have hc4 : m + 4 ≤ c := h1
  have sl1 := slice_h b off (m + 4) c m (by omega)
  have wm : IntKind.i64.wrap (m : Int) = (m : Int) := IntWalk.i64_in _ (by omega)
  replace hseal := hide hseal; replace hconv := hide hconv; replace h3 := hide h3; replace hx1 := hide hx1; replace hx2 := hide hx2; replace hb1 := hide hb1; replace hb2 := hide hb2; replace hsrcT := hide hsrcT
  clear h hT hm hlen
  cases hO : okO l m with
  | false =>
    rw [hO] at hs
    replace hO := hide hO
    go_enter Try.func9, Try.ntmps9
    go_wp2_with fail
    go_region_with (first
        | (go_at_call 16; refine (unhide hseal _ (Below.drew (Below.refl _ _))).mono ?_; rintro e w1 ⟨A1, c1, rfl, hown1, hbb1⟩; have cv := (Bs.own hown1).convert; have hbw1 := (Below.drew (Below.refl w.heap.size w)).trans hbb1; have cw := unhide hconv _ hbw1; replace hown1 := hide hown1))
    all_goals
      go_wp2_with fail
      go_ret2
      exact ⟨none, 0, 7, rfl, rfl, World.ownsRow_nil _ _ _ _, hbw1⟩
  | true =>
    rw [hO] at hs
    replace hO := hide hO
    go_enter Try.func9, Try.ntmps9
    go_wp2_with fail
    go_region_with (first
        | (go_at_call 16; refine (unhide hseal _ (Below.drew (Below.refl _ _))).mono ?_; rintro e w1 ⟨A1, c1, rfl, hown1, hbb1⟩; have cv := (Bs.own hown1).convert; have hbw1 := (Below.drew (Below.refl w.heap.size w)).trans hbb1; have cw := unhide hconv _ hbw1; replace hown1 := hide hown1))
    all_goals
      have hsz1 := hbw1.size
      have hsT := SrcOk.below (unhide hsrcT) hbw1
      replace hsT := hide hsT; replace hsz1 := hide hsz1
      clear cv cw hcv hcd
      go_wp2_with (first
        | (at_builtin
           refine wpList_app _ rfl (.const (.slice none 0 0)) (.tmp 19) 23 rfl w.heap.size 5 i0 _ 1 1 Try.underlying23 hi0 hz0 hz1 hz2 rfl (Nat.succ_pos _) _ 0 [] rfl (World.ownsRow_nil _ _ _ _) (some ⟨b, off, none⟩) m c _ rfl (unhide hx1) (unhide hsT) (unhide hx2) (unhide hb1) (unhide hb2) (unhide hsz1) ?_
           intro v2 w2 hown2 hg2
           have hbw2 : Below w.heap.size w w2 := hbw1.grown hg2 (unhide hsz1) (by intro k hk; simp [Act.eval, Value.ownBlock] at hk)
           rw [Nat.zero_add, List.nil_append] at hown2
           obtain ⟨A2, c2, rfl⟩ := ownsRow_form hown2
           replace hown2 := hide hown2))
      go_ret2
      exact ⟨A2, c2, 0, rfl, rfl, by simpa using unhide hown2, hbw2⟩
end Go.Proofs.Ytplnnlepjooeoaa
