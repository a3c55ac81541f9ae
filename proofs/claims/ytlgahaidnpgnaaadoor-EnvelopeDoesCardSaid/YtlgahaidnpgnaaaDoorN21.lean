import Derived.Test.YtlgahaidnpgnaaaDoorN20
namespace Go.Proofs.YtlgahaidnpgnaaaDoor
open Go.RowKit

theorem Bs.atR {lo hi : Nat} {w : World} {A : Option Addr} {n c k : Nat} {l : List UInt8} {x : UInt8} (h : Bs lo hi w (.slice A n c) l) (hk : l[k]? = some x) :
    ∃ b off, A = some ⟨b, off, none⟩ ∧ b < hi ∧ w.cell? ⟨b, off + k, none⟩ = some (u8v x) := by
  obtain ⟨hi', rfl⟩ := List.getElem?_eq_some_iff.1 hk
  obtain ⟨A', c', e, _, _, h3⟩ := h
  injection e with e1
  obtain ⟨b, off, rfl, _, hb, hc⟩ := h3 (by omega)
  exact ⟨b, off, e1, hb, hc k hi'⟩
set_option maxHeartbeats 2000000 in
theorem hidR_any (s : St) (n : Nx) (v : Value) (t : List UInt8) (w : World) (h : Bs 0 w.heap.size w v t) (hk : t.length ≤ 65536) :
    Calls Tryd.prog 26 #[stV s, u64v n, v] w fun e w' => ∃ A c, e = .returned (.slice A t.length c) ∧ OwnB w' w.heap.size (.slice A t.length c) (hidF s n t) ∧ Below w.heap.size w w' := by
  obtain ⟨i0, hi0, hz0, hz1, hz2⟩ := info_parts info5
  have X0 : Fx w (w.alloc (.cells (stC s) 24)) [(w.heap.size, 24, stC s)] [] [] := (Fx.nil w).newB w.heap.size rfl (stC s) 24
  have hT := fun W => StreamR_good s n t.length W hk
  have hSl := stream_len s n t.length
  have hHl := hid_len s n t
  have hg : ∀ i, i < t.length → ∃ x y, t[i]? = some x ∧ (streamF s n t.length)[i]? = some y ∧ (hidF s n t).take (i + 1) = (hidF s n t).take i ++ [x ^^^ y] := fun i hi => by
    have e : (hidF s n t)[i]? = some (t[i] ^^^ (streamF s n t.length)[i]'(by rw [stream_len]; omega)) := hid_get s n t 0 i hi
    refine ⟨_, _, List.getElem?_eq_getElem hi, List.getElem?_eq_getElem (by rw [stream_len]; omega), ?_⟩
    rw [List.take_add_one, e]
    rfl
  generalize streamF s n t.length = S at *
  generalize hidF s n t = H at *
  obtain ⟨A, c, rfl⟩ := h.form
  obtain ⟨m, hm⟩ : ∃ m, m = t.length := ⟨_, rfl⟩
  have hm0 : m ≤ 65536 := by omega
  rw [← hm] at hT hSl hHl h hg ⊢
  have ho := fun x => u8s_one [x]
  replace X0 := hide X0; replace hT := hide hT; replace hSl := hide hSl; replace hHl := hide hHl; replace hg := hide hg; replace h := hide h; replace ho := hide ho
  clear hm hk
  go_enter Tryd.func26, Tryd.ntmps26
  go_upto_region 1 with (fail)
  generalize hW : World.alloc w _ = W at *
  clear hW
  have c0 : W.cell? ⟨w.heap.size, 0, none⟩ = some (u32v s.a) := ((unhide X0).get 0 rfl).cell 0
  have c1 : W.cell? ⟨w.heap.size, 1, none⟩ = some (u32v s.b) := ((unhide X0).get 0 rfl).cell 1
  have c2 : W.cell? ⟨w.heap.size, 2, none⟩ = some (u32v s.c) := ((unhide X0).get 0 rfl).cell 2
  have c3 : W.cell? ⟨w.heap.size, 3, none⟩ = some (u32v s.d) := ((unhide X0).get 0 rfl).cell 3
  go_wp2_with (first
    | (go_at_call 19; refine (unhide hT _).mono ?_; rintro e w2 ⟨A2, c2', rfl, o2, hb2⟩
       have b2 : Below w.heap.size w w2 := bl_call (unhide X0).bl hb2
       have t2 : Bs 0 w2.heap.size w2 (.slice A m c) t := (unhide h).to b2
       replace b2 := hide b2; replace o2 := hide o2; replace t2 := hide t2
       clear hb2)
    | fail)
  have hst : w2.ownsRow w2.heap.size 5 1 (.slice none 0 0) 0 ((H.take 0).map u8v) := World.ownsRow_nil _ _ _ _
  replace hst := hide hst
  go_loopw [9, 10, 21] (fun r _ i wr => ∃ (k : Nat) (A9 : Option Addr) (c9 : Nat), k ≤ m ∧ i = .int .i64 k ∧ r = .slice A9 k c9 ∧ Hid (wr.ownsRow w2.heap.size 5 1 (.slice A9 k c9) k ((H.take k).map u8v)) ∧ Hid (Below w2.heap.size w2 wr)) (fun _ _ i _ => m - (intOf i).toNat)
  case atStart => exact ⟨0, none, 0, by omega, rfl, rfl, hst, hide (Below.refl _ _)⟩
  case round =>
    obtain ⟨k, A9, c9, hkm, rfl, rfl, o, b⟩ := hrel
    by_cases hlt : k < m
    · have y1 : (k : Int) < (m : Int) := by omega
      have y0 : (0 : Int) ≤ (k : Int) := by omega
      obtain ⟨x, y, hx, hy, hH⟩ := unhide hg k hlt
      obtain ⟨p1, q1, rfl, lp1, e1⟩ := Bs.atR ((unhide t2).below (unhide b) (Nat.le_refl _)) hx
      obtain ⟨p2, q2, rfl, lp2, e2⟩ := Bs.atR ((unhide o2).below (unhide b) (Nat.le_refl _)) hy
      have lw := (unhide b).size
      have lp1' : p1 < wr.heap.size := by omega
      have lp2' : p2 < wr.heap.size := by omega
      have b3 : k + 1 ≤ maxLen := by simp only [maxLen]; omega
      have b4 : (k + 1) * 1 ≤ 140737488355328 := by omega
      obtain ⟨z, hz⟩ : ∃ z, z = x ^^^ y := ⟨_, rfl⟩
      have hxz : bits .xor .u8 (n8 x) (n8 y) = n8 z := by rw [hz]; exact q8_xor x y
      rw [← hz] at hH
      replace hH := hide hH; replace b3 := hide b3; replace b4 := hide b4; replace lw := hide lw
      clear hx hy hz
      go_upto_region 6 with (fail)
      go_region_held3 (fun W => W.cell? ⟨p1, q1 + k, none⟩ = some (u8v x) ∧ W.cell? ⟨p2, q2 + k, none⟩ = some (u8v y)) (first | exact ⟨by with_reducible assumption, by with_reducible assumption⟩ | exact ⟨by go_simp, by go_simp⟩)
        (first
        | (refine step_app rfl (.tmp 24) (.tmp 34) 28 rfl w2.heap.size 5 i0 _ 1 1 Tryd.underlying28 hi0 hz0 hz1 hz2 rfl (Nat.succ_pos _) _ k ((H.take k).map u8v) rfl (World.ownsRow.alloc (own_drew (unhide o)) (.cells #[u8v z] 5)) _ 1 1 (([z] : List UInt8).map u8v) rfl rfl (one_src wr.drew z) (unhide ho _) (unhide b3) (unhide b4) (sz_alloc (w := wr.drew) (unhide lw) (.cells #[u8v z] 5)) ?_
           intro v4 w4 o4 hg4
           have hb4 : Below w2.heap.size w2 w4 := (Below.drew (unhide b)).trans (bl_app (w := wr.drew) (unhide lw) (own_drew (unhide o)) hg4)
           rw [← List.map_append, ← unhide hH] at o4
           obtain ⟨A4, c4, rfl⟩ := ownsRow_form o4
           have e14 : w4.cell? ⟨p1, q1 + k, none⟩ = some (u8v x) := (hb4.cell (p := ⟨p1, q1 + k, none⟩) lp1).trans (((unhide b).cell (p := ⟨p1, q1 + k, none⟩) lp1).symm.trans e1)
           have e24 : w4.cell? ⟨p2, q2 + k, none⟩ = some (u8v y) := (hb4.cell (p := ⟨p2, q2 + k, none⟩) lp2).trans (((unhide b).cell (p := ⟨p2, q2 + k, none⟩) lp2).symm.trans e2)
           replace o4 := hide o4; replace hb4 := hide hb4
           clear hg4))
      go_wp2_with (fail)
      go_roundw
      case rel => exact ⟨k + 1, A4, c4, by omega, by go_num, rfl, o4, hb4⟩
      case measure => simp [intOf]; omega
    · obtain rfl : k = m := by omega
      go_wp2_with (fail)
      go_ret
      refine ⟨A9, c9, rfl, ?_, (unhide b2).trans ((unhide b).mono (unhide b2).size)⟩
      have := unhide o
      rw [List.take_of_length_le (by rw [unhide hHl]; omega)] at this
      unfold OwnB
      rw [unhide hHl]
      exact ownsRow_mono this (unhide b2).size
end Go.Proofs.YtlgahaidnpgnaaaDoor
