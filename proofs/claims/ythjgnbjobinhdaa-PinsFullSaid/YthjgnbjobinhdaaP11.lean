import Derived.Test.YthjgnbjobinhdaaP10
namespace Go.Proofs.Ythjgnbjobinhdaa
open Go.RowKit
set_option maxRecDepth 100000

theorem fil_t {P : Pn → Bool} {l : List Pn} {k : Nat} (hk : k < l.length) (h : P (nth l k) = true) (pre : List Pn) : pre ++ (l.take (k + 1)).filter P = (pre ++ (l.take k).filter P) ++ [nth l k] := by
  rw [List.take_succ_eq_append_getElem hk, List.filter_append, ← nth_get hk, List.append_assoc]
  simp [h]
theorem fil_f {P : Pn → Bool} {l : List Pn} {k : Nat} (hk : k < l.length) (h : P (nth l k) = false) (pre : List Pn) : pre ++ (l.take (k + 1)).filter P = pre ++ (l.take k).filter P := by
  rw [List.take_succ_eq_append_getElem hk, List.filter_append, ← nth_get hk]
  simp [h]
theorem fil_len (P : Pn → Bool) (l : List Pn) (k : Nat) (pre : List Pn) : (pre ++ (l.take k).filter P).length ≤ pre.length + l.length := by
  have h1 := List.length_filter_le P (l.take k)
  rw [List.length_take] at h1
  rw [List.length_append]; omega
theorem src_pin (W : World) (f : Pn) (g : Nat) (hg : g = W.heap.size) : SrcOk (W.alloc (.cells #[.int .u64 f.g, .int .i64 f.n] 35)) (some ⟨g, 0, none⟩) 1 (pc f) := by
  subst hg
  refine fun _ => ⟨_, rfl, fun j u hu => ?_⟩
  have hb : Blk (W.alloc (.cells #[.int .u64 f.g, .int .i64 f.n] 35)) W.heap.size 35 #[.int .u64 f.g, .int .i64 f.n] := Blk.new rfl
  have : ((⟨W.heap.size, 0, none⟩ : Addr).add j) = ⟨W.heap.size, j, none⟩ := by
    unfold Addr.add
    split
    · rename_i h; subst h; rfl
    · simp
  rw [this, hb.cell, ← pc_arr, List.getElem?_toArray]
  exact hu
theorem own_app {w : World} {base : Nat} {A : Option Addr} {c : Nat} {out : List Pn} {f : Pn} (h : w.ownsRow base 35 2 (.slice A (out.length + 1) c) (out.length + 1) (out.flatMap pc ++ pc f)) : OwnP w base (.slice A (out ++ [f]).length c) (out ++ [f]) := by
  have hL : (out ++ [f]).length = out.length + 1 := by simp
  have hF : (out ++ [f]).flatMap pc = out.flatMap pc ++ pc f := by simp
  unfold OwnP
  rw [hL, hF]
  exact h

set_option maxHeartbeats 4000000 in
theorem rwith_any (lo hi : Nat) (v : Value) (l : List Pn) (g m : Int) (w : World) (h : Pns lo hi w v l) (hhi : hi ≤ w.heap.size) (hl8 : l.length ≤ 100000) :
    Calls Try.prog 24 #[v, .int .u64 g, .int .i64 m] w fun e w' => ∃ v', e = .returned v' ∧ OwnP w' w.heap.size v' (putP l g m) ∧ Below w.heap.size w w' := by
  obtain ⟨A, c, rfl, h1, h2, h3⟩ := h.open2
  clear h
  obtain ⟨i0, hi0, hz0, hz1, hz2⟩ := info_parts info35
  obtain ⟨P1, hP⟩ : ∃ P : Pn → Bool, P = fun x => decide (x.g < g) := ⟨_, rfl⟩
  obtain ⟨P2, hP2⟩ : ∃ P : Pn → Bool, P = fun x => decide (g < x.g) := ⟨_, rfl⟩
  obtain ⟨pre, hpre⟩ : ∃ pre : List Pn, pre = [] := ⟨_, rfl⟩
  obtain ⟨n, hn⟩ : ∃ n, n = l.length := ⟨_, rfl⟩
  have hfin1 : pre ++ (l.take n).filter P1 = lowP l g := by rw [hpre, hn, List.take_length, hP]; rfl
  obtain ⟨mid, hmid⟩ : ∃ x, x = lowP l g ++ oneP g m := ⟨_, rfl⟩
  have hfin2 : mid ++ (l.take n).filter P2 = putP l g m := by rw [hmid, hn, List.take_length, hP2]; unfold putP highP; simp
  have hm0 : mid ++ (l.take 0).filter P2 = mid := by simp
  have hP1 : ∀ x, P1 x = decide (x.g < g) := fun x => by rw [hP]
  replace hP2 : ∀ x, P2 x = decide (g < x.g) := fun x => by rw [hP2]
  have hlen1 : ∀ k, (pre ++ (l.take k).filter P1).length ≤ l.length := fun k => by
    have := fil_len P1 l k pre
    rw [hpre] at this ⊢
    simpa using this
  have hlowlen : (lowP l g).length ≤ l.length := List.length_filter_le _ _
  have hone : (oneP g m).length ≤ 1 := by unfold oneP; split <;> simp
  have hlen2 : ∀ k, (mid ++ (l.take k).filter P2).length ≤ l.length + 1 + l.length := fun k => by
    have := fil_len P2 l k mid
    have e : mid.length = (lowP l g).length + (oneP g m).length := by rw [hmid, List.length_append]
    rw [e] at this
    omega
  have h0 : pre ++ (l.take 0).filter P1 = [] := by rw [hpre]; rfl
  rw [← hn] at h3 h1 hl8 hlen1 hlen2 hlowlen ⊢
  obtain ⟨lw, hlw⟩ : ∃ lw, lw = lowP l g := ⟨_, rfl⟩
  rw [← hlw] at hfin1 hmid hlowlen
  obtain ⟨res, hres⟩ : ∃ lw, lw = putP l g m := ⟨_, rfl⟩
  rw [← hres] at hfin2 ⊢
  clear hP hpre hlw hres hone
  replace hmid := hide hmid
  replace hn := hide hn; replace h3 := hide h3; replace h1 := hide h1; replace hfin1 := hide hfin1; replace hfin2 := hide hfin2; replace hP1 := hide hP1; replace hP2 := hide hP2; replace hlen1 := hide hlen1; replace hlen2 := hide hlen2; replace h0 := hide h0; replace hm0 := hide hm0
  replace hlowlen := hide hlowlen
  go_enter Try.func24, Try.ntmps24
  go_wp2
  go_loopw [7, 14] (fun o i wr => ∃ (k : Nat) (A' : Option Addr) (c' : Nat), k ≤ n ∧ o = .slice A' (pre ++ (l.take k).filter P1).length c' ∧ i = .int .i64 k ∧ Hid (OwnP wr w.heap.size (.slice A' (pre ++ (l.take k).filter P1).length c') (pre ++ (l.take k).filter P1)) ∧ Hid (Below w.heap.size w wr)) (fun _ i _ => n - (intOf i).toNat)
  case atStart => exact ⟨0, none, 0, Nat.zero_le _, by rw [unhide h0]; rfl, rfl, by rw [unhide h0]; exact hide (own_nil _ _), hide (Below.refl _ _)⟩
  case round =>
    obtain ⟨k, A', c', hk, rfl, rfl, ho, hB⟩ := hrel
    by_cases hlt : k < n
    · have hkl : k < l.length := by rw [← unhide hn]; exact hlt
      obtain ⟨b, off, rfl, _, hb, p0, p1⟩ := unhide h3 k hlt
      have q1 : b < wr.heap.size := Nat.lt_of_lt_of_le (Nat.lt_of_lt_of_le hb hhi) (unhide hB).size
      have c0 := ((unhide hB).cell (p := ⟨b, off + k * 2, none⟩) (Nat.lt_of_lt_of_le hb hhi)).trans p0
      have c1 := ((unhide hB).cell (p := ⟨b, off + k * 2 + 1, none⟩) (Nat.lt_of_lt_of_le hb hhi)).trans p1
      have e1 := fun h => fil_t (P := P1) hkl h pre
      have e2 := fun h => fil_f (P := P1) hkl h pre
      have hol := unhide hlen1 k
      have hPk := unhide hP1 (nth l k)
      have hB0 : Hid (∀ z, Below w.heap.size w (wr.alloc z)) := hide (fun z => (unhide hB).alloc (unhide hB).size _)
      have hO0 : Hid (∀ z, OwnP (wr.alloc z) w.heap.size (.slice A' (pre ++ (l.take k).filter P1).length c') (pre ++ (l.take k).filter P1)) := hide (fun z => World.ownsRow.alloc (unhide ho) z)
      clear p0 p1 ho
      generalize nth l k = x at *
      generalize pre ++ (l.take k).filter P1 = out at *
      have hbx := fun W : World => new2' (w := W) x
      have szB := (unhide hB).size
      replace hbx := hide hbx
      cases hq : P1 x with
      | false =>
        have a1 := hPk.symm.trans hq
        have e3 := e2 hq
        clear e1 e2 hPk hq
        replace e3 := hide e3
        go_wp2
        go_roundw
        case rel => exact ⟨k + 1, A', c', by omega, by rw [unhide e3], by go_num, by rw [unhide e3]; exact hide (unhide hO0 _), hide (unhide hB0 _)⟩
        case measure => simp [intOf]; omega
      | true =>
        have a1 := hPk.symm.trans hq
        have e3 := e1 hq
        clear e1 e2 hPk hq
        have u1 : out.length + 1 ≤ maxLen := by simp only [maxLen]; omega
        have u2 : (out.length + 1) * 16 ≤ 140737488355328 := by omega
        replace e3 := hide e3; replace u1 := hide u1; replace u2 := hide u2
        go_wp2_with (first
          | (at_builtin
             refine wpList_app _ rfl (.tmp 22) (.tmp 24) 22 rfl w.heap.size 35 i0 _ 2 16 Try.underlying22 hi0 hz0 hz1 hz2 rfl (Nat.succ_pos _) _ out.length (out.flatMap pc) rfl ((unhide hO0 _).alloc _) (some ⟨wr.heap.size + 1, 0, none⟩) 1 1 (pc x) rfl (by rw [pc_len]) (src_pin _ _ _ (by simp)) (pc_one x) (unhide u1) (unhide u2) (by simp; omega) ?_
             intro v5 w5 o5 hg5
             obtain ⟨A5, c5, rfl⟩ := ownsRow_form o5
             have B8 := hide (((unhide hB0 _).alloc (by simp; omega) _).grown hg5 (by simp; omega) (own_base (unhide hO0 (.cells #[] 0))))
             replace o5 := hide o5))
        go_roundw
        case rel => exact ⟨k + 1, A5, c5, by omega, by rw [unhide e3, List.length_append]; rfl, by go_num, by rw [unhide e3]; exact hide (own_app (unhide o5)), B8⟩
        case measure => simp [intOf]; omega
    · obtain rfl : n = k := by omega
      have hl1 := unhide hlowlen
      have ho2 := unhide ho
      rw [unhide hfin1] at ho2
      have szB := (unhide hB).size
      replace ho2 := hide ho2
      rw [unhide hfin1]
      clear ho
      by_cases hm : 0 < m
      · have hmd : mid = lw ++ [⟨g, m⟩] := by rw [unhide hmid]; unfold oneP; rw [if_pos hm]
        have hml : mid.length = lw.length + 1 := by rw [hmd]; simp
        have u1 : lw.length + 1 ≤ maxLen := by simp only [maxLen]; omega
        have u2 : (lw.length + 1) * 16 ≤ 140737488355328 := by omega
        replace u1 := hide u1; replace u2 := hide u2; replace hmd := hide hmd; replace hml := hide hml
        go_wp2_with (first
          | (at_builtin
             refine wpList_app _ rfl (.tmp 29) (.tmp 33) 22 rfl w.heap.size 35 i0 _ 2 16 Try.underlying22 hi0 hz0 hz1 hz2 rfl (Nat.succ_pos _) _ lw.length (lw.flatMap pc) rfl (World.ownsRow.alloc (unhide ho2) _) (some ⟨wr.heap.size, 0, none⟩) 1 1 (pc ⟨g, m⟩) rfl (by rw [pc_len]) (src_pin _ ⟨g, m⟩ _ rfl) (pc_one ⟨g, m⟩) (unhide u1) (unhide u2) (by simp; omega) ?_
             intro v5 w5 o5 hg5
             obtain ⟨A6, c6, rfl⟩ := ownsRow_form o5
             have B6 := hide (((unhide hB).alloc (by omega) _).grown hg5 (by simp; omega) (own_base (unhide ho2)))
             have o6 := hide (show OwnP w5 w.heap.size (.slice A6 mid.length c6) mid by rw [unhide hmd]; exact own_app o5)
             rw [← unhide hml]
             clear o5 hg5))
        go_loopw [7, 37] (fun o i wr => ∃ (k : Nat) (A' : Option Addr) (c' : Nat), k ≤ n ∧ o = .slice A' (mid ++ (l.take k).filter P2).length c' ∧ i = .int .i64 k ∧ Hid (OwnP wr w.heap.size (.slice A' (mid ++ (l.take k).filter P2).length c') (mid ++ (l.take k).filter P2)) ∧ Hid (Below w.heap.size w wr)) (fun _ i _ => n - (intOf i).toNat)
        case atStart => exact ⟨0, A6, c6, Nat.zero_le _, by rw [unhide hm0], rfl, by rw [unhide hm0]; exact o6, B6⟩
        case round =>
          obtain ⟨k, A', c', hk, rfl, rfl, ho, hB⟩ := hrel
          by_cases hlt : k < n
          · have hkl : k < l.length := by rw [← unhide hn]; exact hlt
            obtain ⟨b, off, rfl, _, hb, p0, p1⟩ := unhide h3 k hlt
            have q1 : b < wr.heap.size := Nat.lt_of_lt_of_le (Nat.lt_of_lt_of_le hb hhi) (unhide hB).size
            have c0 := ((unhide hB).cell (p := ⟨b, off + k * 2, none⟩) (Nat.lt_of_lt_of_le hb hhi)).trans p0
            have c1 := ((unhide hB).cell (p := ⟨b, off + k * 2 + 1, none⟩) (Nat.lt_of_lt_of_le hb hhi)).trans p1
            have e1 := fun h => fil_t (P := P2) hkl h mid
            have e2 := fun h => fil_f (P := P2) hkl h mid
            have hol := unhide hlen2 k
            have hPk := unhide hP2 (nth l k)
            have hB0 : Hid (∀ z, Below w.heap.size w (wr.alloc z)) := hide (fun z => (unhide hB).alloc (unhide hB).size _)
            have hO0 : Hid (∀ z, OwnP (wr.alloc z) w.heap.size (.slice A' (mid ++ (l.take k).filter P2).length c') (mid ++ (l.take k).filter P2)) := hide (fun z => World.ownsRow.alloc (unhide ho) z)
            clear p0 p1 ho
            generalize nth l k = x at *
            generalize mid ++ (l.take k).filter P2 = out at *
            have hbx := fun W : World => new2' (w := W) x
            have szB := (unhide hB).size
            replace hbx := hide hbx
            cases hq : P2 x with
            | false =>
              have a1 := hPk.symm.trans hq
              have e3 := e2 hq
              clear e1 e2 hPk hq
              replace e3 := hide e3
              go_wp2
              go_roundw
              case rel => exact ⟨k + 1, A', c', by omega, by rw [unhide e3], by go_num, by rw [unhide e3]; exact hide (unhide hO0 _), hide (unhide hB0 _)⟩
              case measure => simp [intOf]; omega
            | true =>
              have a1 := hPk.symm.trans hq
              have e3 := e1 hq
              clear e1 e2 hPk hq
              have u1 : out.length + 1 ≤ maxLen := by simp only [maxLen]; omega
              have u2 : (out.length + 1) * 16 ≤ 140737488355328 := by omega
              replace e3 := hide e3; replace u1 := hide u1; replace u2 := hide u2
              go_wp2_with (first
                | (at_builtin
                   refine wpList_app _ rfl (.tmp 45) (.tmp 47) 22 rfl w.heap.size 35 i0 _ 2 16 Try.underlying22 hi0 hz0 hz1 hz2 rfl (Nat.succ_pos _) _ out.length (out.flatMap pc) rfl ((unhide hO0 _).alloc _) (some ⟨wr.heap.size + 1, 0, none⟩) 1 1 (pc x) rfl (by rw [pc_len]) (src_pin _ _ _ (by simp)) (pc_one x) (unhide u1) (unhide u2) (by simp; omega) ?_
                   intro v5 w5 o5 hg5
                   obtain ⟨A5, c5, rfl⟩ := ownsRow_form o5
                   have B8 := hide (((unhide hB0 _).alloc (by simp; omega) _).grown hg5 (by simp; omega) (own_base (unhide hO0 (.cells #[] 0))))
                   replace o5 := hide o5))
              go_roundw
              case rel => exact ⟨k + 1, A5, c5, by omega, by rw [unhide e3, List.length_append]; rfl, by go_num, by rw [unhide e3]; exact hide (own_app (unhide o5)), B8⟩
              case measure => simp [intOf]; omega
          · obtain rfl : n = k := by omega
            have ho2 := unhide ho
            rw [unhide hfin2] at ho2
            rw [unhide hfin2]
            go_wp2
            go_ret
            exact ⟨_, rfl, ho2, unhide hB⟩
      · have hmd : mid = lw := by rw [unhide hmid]; unfold oneP; rw [if_neg hm]; simp
        replace hmd := hide hmd
        have o6 : Hid (OwnP wr w.heap.size (.slice A' mid.length c') mid) := hide (by rw [unhide hmd]; exact unhide ho2)
        have B6 := hB
        rw [← unhide hmd]
        clear ho2 hB
        obtain ⟨A6, hA6⟩ : ∃ A6, A6 = A' := ⟨_, rfl⟩
        obtain ⟨c6, hc6⟩ : ∃ c6, c6 = c' := ⟨_, rfl⟩
        rw [← hA6, ← hc6] at o6 ⊢
        clear hA6 hc6
        go_wp2
        go_loopw [7, 37] (fun o i wr => ∃ (k : Nat) (A' : Option Addr) (c' : Nat), k ≤ n ∧ o = .slice A' (mid ++ (l.take k).filter P2).length c' ∧ i = .int .i64 k ∧ Hid (OwnP wr w.heap.size (.slice A' (mid ++ (l.take k).filter P2).length c') (mid ++ (l.take k).filter P2)) ∧ Hid (Below w.heap.size w wr)) (fun _ i _ => n - (intOf i).toNat)
        case atStart => exact ⟨0, A6, c6, Nat.zero_le _, by rw [unhide hm0], rfl, by rw [unhide hm0]; exact o6, B6⟩
        case round =>
          obtain ⟨k, A', c', hk, rfl, rfl, ho, hB⟩ := hrel
          by_cases hlt : k < n
          · have hkl : k < l.length := by rw [← unhide hn]; exact hlt
            obtain ⟨b, off, rfl, _, hb, p0, p1⟩ := unhide h3 k hlt
            have q1 : b < wr.heap.size := Nat.lt_of_lt_of_le (Nat.lt_of_lt_of_le hb hhi) (unhide hB).size
            have c0 := ((unhide hB).cell (p := ⟨b, off + k * 2, none⟩) (Nat.lt_of_lt_of_le hb hhi)).trans p0
            have c1 := ((unhide hB).cell (p := ⟨b, off + k * 2 + 1, none⟩) (Nat.lt_of_lt_of_le hb hhi)).trans p1
            have e1 := fun h => fil_t (P := P2) hkl h mid
            have e2 := fun h => fil_f (P := P2) hkl h mid
            have hol := unhide hlen2 k
            have hPk := unhide hP2 (nth l k)
            have hB0 : Hid (∀ z, Below w.heap.size w (wr.alloc z)) := hide (fun z => (unhide hB).alloc (unhide hB).size _)
            have hO0 : Hid (∀ z, OwnP (wr.alloc z) w.heap.size (.slice A' (mid ++ (l.take k).filter P2).length c') (mid ++ (l.take k).filter P2)) := hide (fun z => World.ownsRow.alloc (unhide ho) z)
            clear p0 p1 ho
            generalize nth l k = x at *
            generalize mid ++ (l.take k).filter P2 = out at *
            have hbx := fun W : World => new2' (w := W) x
            have szB := (unhide hB).size
            replace hbx := hide hbx
            cases hq : P2 x with
            | false =>
              have a1 := hPk.symm.trans hq
              have e3 := e2 hq
              clear e1 e2 hPk hq
              replace e3 := hide e3
              go_wp2
              go_roundw
              case rel => exact ⟨k + 1, A', c', by omega, by rw [unhide e3], by go_num, by rw [unhide e3]; exact hide (unhide hO0 _), hide (unhide hB0 _)⟩
              case measure => simp [intOf]; omega
            | true =>
              have a1 := hPk.symm.trans hq
              have e3 := e1 hq
              clear e1 e2 hPk hq
              have u1 : out.length + 1 ≤ maxLen := by simp only [maxLen]; omega
              have u2 : (out.length + 1) * 16 ≤ 140737488355328 := by omega
              replace e3 := hide e3; replace u1 := hide u1; replace u2 := hide u2
              go_wp2_with (first
                | (at_builtin
                   refine wpList_app _ rfl (.tmp 45) (.tmp 47) 22 rfl w.heap.size 35 i0 _ 2 16 Try.underlying22 hi0 hz0 hz1 hz2 rfl (Nat.succ_pos _) _ out.length (out.flatMap pc) rfl ((unhide hO0 _).alloc _) (some ⟨wr.heap.size + 1, 0, none⟩) 1 1 (pc x) rfl (by rw [pc_len]) (src_pin _ _ _ (by simp)) (pc_one x) (unhide u1) (unhide u2) (by simp; omega) ?_
                   intro v5 w5 o5 hg5
                   obtain ⟨A5, c5, rfl⟩ := ownsRow_form o5
                   have B8 := hide (((unhide hB0 _).alloc (by simp; omega) _).grown hg5 (by simp; omega) (own_base (unhide hO0 (.cells #[] 0))))
                   replace o5 := hide o5))
              go_roundw
              case rel => exact ⟨k + 1, A5, c5, by omega, by rw [unhide e3, List.length_append]; rfl, by go_num, by rw [unhide e3]; exact hide (own_app (unhide o5)), B8⟩
              case measure => simp [intOf]; omega
          · obtain rfl : n = k := by omega
            have ho2 := unhide ho
            rw [unhide hfin2] at ho2
            rw [unhide hfin2]
            go_wp2
            go_ret
            exact ⟨_, rfl, ho2, unhide hB⟩
end Go.Proofs.Ythjgnbjobinhdaa
