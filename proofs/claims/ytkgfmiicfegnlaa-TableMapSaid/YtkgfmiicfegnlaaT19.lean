import Derived.Test.YtkgfmiicfegnlaaT18
namespace Go.Proofs.Ytkgfmiicfegnlaa
open Go.RowKit
attribute [local go_sem] bz_size bz_toList run_store_float
set_option maxRecDepth 100000

theorem own_app {w : World} {base : Nat} {A : Option Addr} {c : Nat} {out : List Fl} {f : Fl} (h : w.ownsRow base 26 6 (.slice A (out.length + 1) c) (out.length + 1) (out.flatMap fc ++ fc f)) : OwnF w base (.slice A (out ++ [f]).length c) (out ++ [f]) := by
  have hL : (out ++ [f]).length = out.length + 1 := by simp
  rw [flat_snoc] at h
  unfold OwnF
  rw [hL]
  exact h

set_option maxHeartbeats 2000000 in
theorem refWithout_any (lo hi : Nat) (v : Value) (l : List Fl) (p : List UInt8) (w : World) (h : Fls lo hi w v l) (hhi : hi ≤ w.heap.size) (hl8 : l.length ≤ 100000) (hU : Up l) :
    Calls Try.prog 41 #[v, .string (bz p)] w fun e w' => ∃ v', e = .returned v' ∧ OwnF w' w.heap.size v' (delF l p) ∧ Below w.heap.size w w' := by
  rw [← del_filter hU p]
  clear hU
  obtain ⟨A, c, rfl, h1, h2, h3⟩ := h.open6
  clear h
  obtain ⟨i0, hi0, hz0, hz1, hz2⟩ := info_parts info26
  obtain ⟨P, hP⟩ : ∃ P : Fl → Bool, P = fun x => x.nm != p := ⟨_, rfl⟩
  obtain ⟨pre, hpre⟩ : ∃ pre : List Fl, pre = [] := ⟨_, rfl⟩
  obtain ⟨n, hn⟩ : ∃ n, n = l.length := ⟨_, rfl⟩
  have hfin : pre ++ (l.take n).filter P = l.filter (fun x => x.nm != p) := by rw [hpre, hn, List.take_length, hP]; rfl
  have hPf : ∀ f, P f = (f.nm != p) := fun f => by rw [hP]
  have hlen : ∀ k, (pre ++ (l.take k).filter P).length ≤ l.length := fun k => by
    have := fil_len P l k pre
    rw [hpre] at this ⊢
    simpa using this
  have h0 : pre ++ (l.take 0).filter P = [] := by rw [hpre]; rfl
  rw [← hn] at h3 h1 hl8 hlen ⊢
  replace hn := hide hn; replace h3 := hide h3; replace h1 := hide h1; replace hfin := hide hfin; replace hPf := hide hPf; replace hlen := hide hlen; replace h0 := hide h0
  clear hP hpre
  go_enter Try.func41, Try.ntmps41
  go_wp2
  go_loopw [5, 10] (fun o i wr => ∃ (k : Nat) (A' : Option Addr) (c' : Nat), k ≤ n ∧ o = .slice A' (pre ++ (l.take k).filter P).length c' ∧ i = .int .i64 k ∧ Hid (OwnF wr w.heap.size (.slice A' (pre ++ (l.take k).filter P).length c') (pre ++ (l.take k).filter P)) ∧ Hid (Below w.heap.size w wr)) (fun _ i _ => n - (intOf i).toNat)
  case atStart => exact ⟨0, none, 0, Nat.zero_le _, by rw [unhide h0]; rfl, rfl, by rw [unhide h0]; exact hide (own_nil _ _), hide (Below.refl _ _)⟩
  case round =>
    obtain ⟨k, A', c', hk, rfl, rfl, ho, hB⟩ := hrel
    by_cases hlt : k < n
    · have hkl : k < l.length := by rw [← unhide hn]; exact hlt
      obtain ⟨b, off, rfl, _, hb, hc⟩ := unhide h3 k hlt
      obtain ⟨c0, c1, c2, c3, c4, c5⟩ := six (below_load (unhide hB) (Nat.lt_of_lt_of_le hb hhi) hc)
      have q1 : b < wr.heap.size := Nat.lt_of_lt_of_le (Nat.lt_of_lt_of_le hb hhi) (unhide hB).size
      have e1 := fun h => fil_t (P := P) hkl h pre
      have e2 := fun h => fil_f (P := P) hkl h pre
      have hol := unhide hlen k
      obtain ⟨f, hf⟩ : ∃ f, f = nth l k := ⟨_, rfl⟩
      rw [← hf] at c0 c1 c2 c3 c4 c5 e1 e2
      have hB0 : Hid (∀ x, Below w.heap.size w (wr.alloc x)) := hide (fun x => (unhide hB).alloc (unhide hB).size _)
      have hPk := unhide hPf f
      clear hc hf hkl
      generalize pre ++ (l.take k).filter P = out at *
      cases hw : f.nm == p with
      | true =>
        have hw2 : (f.nm != p) = false := by unfold bne; rw [hw]; rfl
        have e3 := e2 (hPk.trans hw2)
        clear e1 e2 hPk
        replace e3 := hide e3
        go_wp2
        go_roundw
        case rel => exact ⟨k + 1, A', c', by omega, by rw [unhide e3], by go_num, by rw [unhide e3]; exact hide (own_alloc (unhide ho) _), hide (unhide hB0 _)⟩
        case measure => simp [intOf]; omega
      | false =>
        have hw2 : (f.nm != p) = true := by unfold bne; rw [hw]; rfl
        have e3 := e1 (hPk.trans hw2)
        clear e1 e2 hPk
        have u1 : out.length + 1 ≤ maxLen := by simp only [maxLen]; omega
        have u2 : (out.length + 1) * 56 ≤ 140737488355328 := by omega
        replace e3 := hide e3; replace u1 := hide u1; replace u2 := hide u2
        go_wp2_with (first
          | (at_builtin
             refine wpList_app _ rfl (.tmp 18) (.tmp 20) 22 rfl w.heap.size 26 i0 _ 6 56 Try.underlying22 hi0 hz0 hz1 hz2 rfl (Nat.succ_pos _) _ out.length (out.flatMap fc) rfl ((own_alloc (unhide ho) _).alloc _) (some ⟨wr.heap.size + 1, 0, none⟩) 1 1 (fc f) rfl (by rw [fc_len]) (src_file _ _ _ (by simp)) (fc_one f) (unhide u1) (unhide u2) (by have := (unhide hB).size; simp; omega) ?_
             intro v5 w5 o5 hg5
             obtain ⟨A5, c5, rfl⟩ := ownsRow_form o5
             have B8 := hide (((unhide hB0 _).alloc (unhide hB0 _).size _).grown hg5 (by have := (unhide hB).size; simp; omega) (own_base (unhide ho)))
             replace o5 := hide o5))
        go_roundw
        case rel => exact ⟨k + 1, A5, c5, by omega, by rw [unhide e3, List.length_append]; rfl, by go_num, by rw [unhide e3]; exact hide (own_app (unhide o5)), B8⟩
        case measure => simp [intOf]; omega
    · obtain rfl : k = n := by omega
      have ho2 := unhide ho
      rw [unhide hfin] at ho2
      replace ho2 := hide ho2
      go_wp2
      go_ret
      exact ⟨_, rfl, by rw [unhide hfin]; exact unhide ho2, unhide hB⟩
end Go.Proofs.Ytkgfmiicfegnlaa
