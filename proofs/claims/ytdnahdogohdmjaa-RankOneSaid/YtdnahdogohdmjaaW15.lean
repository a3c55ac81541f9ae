import Derived.Test.YtdnahdogohdmjaaW14
namespace Go.Proofs.Ytdnahdogohdmjaa
open Go.RowKit
set_option maxRecDepth 100000

theorem fs_own {w : World} {base n : Nat} {v : Value} {d : List Nat} (h : w.ownsRow base 22 1 v n (d.map (Value.float .f64))) : Fs base w.heap.size w v d := by
  rw [← flat_fl] at h
  exact Rd.of_own fl_len (by decide) h
theorem fs_src {lo hi : Nat} {w : World} {A : Option Addr} {n c : Nat} {l : List Nat} (h : Fs lo hi w (.slice A n c) l) : SrcOk w A n (l.map (Value.float .f64)) := by
  have := (Rd.src fl_len h).2
  rwa [flat_fl] at this
theorem fl_ones (l : List Nat) : ∀ u ∈ l.map (Value.float .f64), u.oneCell' = true := by rw [← flat_fl]; exact flat_one fl_one l
theorem own_alloc {w : World} {base n : Nat} {v : Value} {xs : List Value} (h : w.ownsRow base 22 1 v n xs) (o : Obj) : (w.alloc o).ownsRow base 22 1 v n xs := World.ownsRow.alloc h o
theorem src_lit (w : World) (f : Nat) : SrcOk (w.alloc (.cells #[.float .f64 f] 22)) (some ⟨w.heap.size, 0, none⟩) 1 [.float .f64 f] := fun _ => ⟨_, rfl, fun j u hu => by
  have hj : j < 1 := (List.getElem?_eq_some_iff.1 hu).1
  obtain rfl : j = 0 := by omega
  have hu' : some (Value.float .f64 f) = some u := hu
  rw [add_none, ← hu']
  have hB : Blk (w.alloc (.cells #[.float .f64 f] 22)) w.heap.size 22 #[.float .f64 f] := Blk.new rfl
  exact hB.cell 0⟩
theorem take_succ_nth {l : List Nat} {k : Nat} (h : k < l.length) : l.take (k + 1) = l.take k ++ [nth l k] := by
  rw [nth_get h, List.take_succ_eq_append_getElem h]

attribute [local go_sem] run_store_float m_neg m_lt m_gt m_eq m_ne x_bits x_from eq_self_ Bool.not_not
set_option maxHeartbeats 2000000 in
theorem refOrder_any (lo : Nat) (v : Value) (l : List Nat) (w : World) (h : Fs lo w.heap.size w v l) (hs : Small l) (hL : l.length ≤ 1000000) :
    Calls Try.prog 23 #[v] w fun e w' => ∃ v' d, e = .returned v' ∧ w'.ownsRow w.heap.size 22 1 v' d.length (d.map (Value.float .f64)) ∧ Ordered l d ∧ Below w.heap.size w w' := by
  obtain ⟨i0, hi0, hz0, hz1, hz2⟩ := info_parts info22
  obtain ⟨n, hn⟩ : ∃ n, n = l.length := ⟨_, rfl⟩
  obtain ⟨A, c, rfl, _⟩ := id h
  rw [← hn] at h hL ⊢
  obtain ⟨z0, hlc, hc, hcell⟩ := h.get
  clear z0
  have h0 : Ordered (l.take 0) [] := ⟨rfl, .refl _, Srt.short _ (by simp), fun i => by simp [nth]⟩
  replace h := hide h; replace hs := hide hs; replace hcell := hide hcell; replace hn := hide hn; replace h0 := hide h0
  go_enter Try.func23, Try.ntmps23
  go_wp2_with (fail)
  go_loopw [3, 10] (fun out i wr => ∃ (k : Nat) (Ao : Option Addr) (co : Nat) (d : List Nat), k ≤ n ∧ i = .int .i64 k ∧ out = .slice Ao k co ∧ Hid (wr.ownsRow w.heap.size 22 1 (.slice Ao k co) k (d.map (Value.float .f64))) ∧ Hid (Ordered (l.take k) d) ∧ Hid (Below w.heap.size w wr)) (fun _ i _ => n - (intOf i).toNat)
  case atStart => exact ⟨0, none, 0, [], Nat.zero_le _, rfl, rfl, hide (World.ownsRow_nil _ _ _ _), h0, hide (Below.refl _ _)⟩
  case round =>
    clear h0
    obtain ⟨k, Ao, co, d, hk, rfl, rfl, ho, hd, hb⟩ := hrel
    have hdl : d.length = k := by rw [(unhide hd).1, List.length_take, ← unhide hn]; omega
    by_cases hlt : k < n
    · obtain ⟨b, off, rfl, _, hbb, hcl⟩ := unhide hcell (by omega)
      obtain ⟨f, hf⟩ : ∃ f, f = nth l k := ⟨_, rfl⟩
      have hfs : f < 18446744073709551616 := by rw [hf]; exact unhide hs k
      have c1 : wr.cell? ⟨b, off + k, none⟩ = some (.float .f64 f) := by
        rw [(unhide hb).cell (p := ⟨b, off + k, none⟩) hbb, hcl k (by have := unhide hn; omega), hf, nth_get (by have := unhide hn; omega)]
      have hfo := fs_own (unhide ho)
      obtain ⟨z1, hoc, hoc2, hco⟩ := hfo.get
      clear z1
      have hCmp := fun (i : Nat) W => refCmp_any (nth d i) f ((unhide hd).2.2.2 i) hfs W
      replace hfs := hide hfs; replace hf := hide hf; replace hfo := hide hfo; replace hco := hide hco; replace hCmp := hide hCmp; replace hdl := hide hdl
      clear hcl
      go_wp2_with (fail)
      go_loop [6] (fun a => ∃ x : Nat, x ≤ k ∧ a = .int .i64 x ∧ Hid (∀ i, x ≤ i → i < d.length → keyF f ≤ ky d i)) (fun a => (intOf a).toNat)
      case atStart => exact ⟨k, Nat.le_refl _, rfl, hide (fun i q1 q2 => by have := unhide hdl; omega)⟩
      case round =>
        obtain ⟨x, hx, rfl, hhi⟩ := hrel
        by_cases hx0 : 0 < x
        · obtain ⟨b2, off2, rfl, _, _, hcl2⟩ := unhide hco (by omega)
          obtain ⟨Z, hZ⟩ : ∃ Z, Z = cmpN (ky d (x - 1)) (keyF f) := ⟨_, rfl⟩
          have hZ2 : 0 < Z ↔ keyF f < ky d (x - 1) := by rw [hZ]; exact cmpN_pos
          have hCm := fun W => ((unhide hCmp) (x - 1) W)
          change ∀ W, Calls Try.prog 17 #[.float .f64 (nth d (x - 1)), .float .f64 f] W fun e w' => e = .returned (.int .i64 (cmpN (ky d (x - 1)) (keyF f))) ∧ W = w' at hCm
          rw [← hZ] at hCm
          obtain ⟨e2, he2⟩ : ∃ e2, e2 = nth d (x - 1) := ⟨_, rfl⟩
          rw [← he2] at hCm
          have c2 : wr.cell? ⟨b2, off2 + (x - 1), none⟩ = some (.float .f64 e2) := by
            rw [hcl2 (x - 1) (by have := unhide hdl; omega), he2, nth_get (by have := unhide hdl; omega)]
          have i1 : IntKind.i64.wrap ((x : Int) - 1) = (x : Int) - 1 := IntWalk.i64_in _ (by omega)
          have x1 : x - 1 < k := by omega
          replace hZ := hide hZ; replace hZ2 := hide hZ2; replace he2 := hide he2; replace hCm := hide hCm
          clear hcl2
          by_cases hz : 0 < Z
          · have hz2 := (unhide hZ2).1 hz
            replace hz2 := hide hz2
            go_wp2_with (go_at_call 17; refine (unhide hCm _).mono ?_; rintro ez wz ⟨rfl, rfl⟩)
            go_round
            case rel => exact ⟨x - 1, by omega, by go_num, hide (fun i p1 p2 => by
              rcases Nat.lt_or_ge (x - 1) i with h | h
              · exact (unhide hhi) i (by omega) p2
              · rw [show i = x - 1 by omega]; exact Nat.le_of_lt (unhide hz2))⟩
            case measure => simp [intOf]; omega
          · have hlo : x = 0 ∨ ky d (x - 1) ≤ keyF f := .inr (Nat.not_lt.1 fun h => hz ((unhide hZ2).2 h))
            have hxd : x ≤ d.length := by have := unhide hdl; omega
            have hput := put_ordered (unhide hd) hxd (unhide hfs) (unhide hhi) hlo
            have htk : l.take (k + 1) = l.take k ++ [f] := by rw [take_succ_nth (by have := unhide hn; omega), unhide hf]
            rw [← htk] at hput
            obtain ⟨A1, q1, s1, g1⟩ := (unhide hfo).cut_h x hxd
            obtain ⟨A2, q2, s2, g2⟩ := (unhide hfo).cut_l x hxd
            rw [unhide hdl] at s2 g2
            have d1 : (d.take x).length = x := by rw [List.length_take]; omega
            have d2 : (d.drop x).length = k - x := by rw [List.length_drop, unhide hdl]
            have k1 : ((d.take x).map (Value.float .f64)).length = x * 1 := by rw [List.length_map, d1, Nat.mul_one]
            have k2 : ((d.drop x).map (Value.float .f64)).length = (k - x) * 1 := by rw [List.length_map, d2, Nat.mul_one]
            have u1 : 0 + x ≤ maxLen := by simp only [maxLen]; omega
            have u2 : (0 + x) * 8 ≤ 140737488355328 := by omega
            have u3 : 0 + x + 1 ≤ maxLen := by simp only [maxLen]; omega
            have u4 : (0 + x + 1) * 8 ≤ 140737488355328 := by omega
            have u5 : 0 + x + 1 + (k - x) ≤ maxLen := by simp only [maxLen]; omega
            have u6 : (0 + x + 1 + (k - x)) * 8 ≤ 140737488355328 := by omega
            have s4 := fs_src g1
            replace s4 := hide s4
            replace hput := hide hput; replace htk := hide htk; replace g1 := hide g1; replace g2 := hide g2; replace d1 := hide d1; replace d2 := hide d2; replace k1 := hide k1; replace k2 := hide k2
            replace u1 := hide u1; replace u2 := hide u2; replace u3 := hide u3; replace u4 := hide u4; replace u5 := hide u5; replace u6 := hide u6
            replace hlo := hide hlo; replace hxd := hide hxd
            go_wp2_with (first
              | (go_at_call 17; refine (unhide hCm _).mono ?_; rintro ez wz ⟨rfl, rfl⟩)
              | (at_builtin
                 refine wpList_app _ rfl (.const (.slice none 0 0)) (.tmp 32) 33 rfl wr.heap.size 22 i0 _ 1 8 Try.underlying33 hi0 hz0 hz1 hz2 rfl (Nat.succ_pos _) _ 0 [] rfl (World.ownsRow_nil _ _ _ _) A1 x q1 ((d.take x).map (Value.float .f64)) rfl (unhide k1) (unhide s4) (fl_ones _) (unhide u1) (unhide u2) (Nat.le_refl _) ?_
                 intro v1 w1 o1 gr1
                 have b1 : Below wr.heap.size wr w1 := (Below.refl _ _).grown gr1 (Nat.le_refl _) (by intro k hk; cases hk)
                 have b2 : Below wr.heap.size wr (w1.alloc (.cells #[.float .f64 f] 22)) := bl_alloc b1 _
                 have o2 := own_alloc o1 (.cells #[.float .f64 f] 22)
                 have L1 : SrcOk (w1.alloc (.cells #[.float .f64 f] 22)) (some ⟨w1.heap.size, 0, none⟩) 1 [.float .f64 f] := src_lit w1 f
                 have z9 : wr.heap.size ≤ (w1.alloc (.cells #[.float .f64 f] 22)).heap.size := b2.size
                 replace b1 := hide b1; replace b2 := hide b2; replace o1 := hide o1; replace o2 := hide o2; replace L1 := hide L1; replace z9 := hide z9; clear gr1)
              | (at_builtin
                 refine wpList_app _ rfl (.tmp 34) (.tmp 36) 33 rfl wr.heap.size 22 i0 _ 1 8 Try.underlying33 hi0 hz0 hz1 hz2 rfl (Nat.succ_pos _) _ (0 + x) _ rfl (unhide o2) (some ⟨w1.heap.size, 0, none⟩) 1 1 [.float .f64 f] rfl rfl (unhide L1) (fl_ones [f]) (unhide u3) (unhide u4) (unhide z9) ?_
                 intro v2 w2 o3 gr2
                 have b3 : Below wr.heap.size wr w2 := (unhide b2).grown gr2 (unhide z9) (own_base (unhide o2))
                 have L2 := fs_src ((unhide g2).below b3 (Nat.le_refl _))
                 have z8 : wr.heap.size ≤ w2.heap.size := b3.size
                 replace b3 := hide b3; replace o3 := hide o3; replace L2 := hide L2; replace z8 := hide z8; clear gr2)
              | (at_builtin
                 refine wpList_app _ rfl (.tmp 38) (.tmp 41) 33 rfl wr.heap.size 22 i0 _ 1 8 Try.underlying33 hi0 hz0 hz1 hz2 rfl (Nat.succ_pos _) _ (0 + x + 1) _ rfl (unhide o3) A2 (k - x) q2 ((d.drop x).map (Value.float .f64)) rfl (unhide k2) (unhide L2) (fl_ones _) (unhide u5) (unhide u6) (unhide z8) ?_
                 intro v3 w3 o4 gr3
                 have b4 : Below wr.heap.size wr w3 := (unhide b3).grown gr3 (unhide z8) (own_base (unhide o3))
                 obtain ⟨A3, c3, rfl⟩ := ownsRow_form o4
                 have e9 : 0 + x + 1 + (k - x) = k + 1 := by omega
                 rw [e9] at o4
                 have o5 : w3.ownsRow w.heap.size 22 1 (.slice A3 (k + 1) c3) (k + 1) ((put d x f).map (Value.float .f64)) := by
                   have := ownsRow_mono o4 (unhide hb).size
                   unfold put; simpa using this
                 have b5 := (unhide hb).trans (b4.mono (unhide hb).size)
                 replace o5 := hide o5; replace b5 := hide b5; clear o4 b4 gr3)
              | fail)
            go_roundw
            case rel => exact ⟨k + 1, A3, c3, put d x f, by omega, by go_num, (by rw [show x + 1 + (k - x) = k + 1 by omega]), o5, hput, b5⟩
            case measure => simp [intOf]; omega
        · have hlo : x = 0 ∨ ky d (x - 1) ≤ keyF f := .inl (by omega)
          have hx1 : x = 0 := by omega
          have hx2 : decide (0 < (x : Int)) = false := decide_eq_false (by omega)
          replace hx1 := hide hx1
          have hxd : x ≤ d.length := by have := unhide hdl; omega
          have hput := put_ordered (unhide hd) hxd (unhide hfs) (unhide hhi) hlo
          have htk : l.take (k + 1) = l.take k ++ [f] := by rw [take_succ_nth (by have := unhide hn; omega), unhide hf]
          rw [← htk] at hput
          obtain ⟨A1, q1, s1, g1⟩ := (unhide hfo).cut_h x hxd
          obtain ⟨A2, q2, s2, g2⟩ := (unhide hfo).cut_l x hxd
          rw [unhide hdl] at s2 g2
          have d1 : (d.take x).length = x := by rw [List.length_take]; omega
          have d2 : (d.drop x).length = k - x := by rw [List.length_drop, unhide hdl]
          have k1 : ((d.take x).map (Value.float .f64)).length = x * 1 := by rw [List.length_map, d1, Nat.mul_one]
          have k2 : ((d.drop x).map (Value.float .f64)).length = (k - x) * 1 := by rw [List.length_map, d2, Nat.mul_one]
          have u1 : 0 + x ≤ maxLen := by simp only [maxLen]; omega
          have u2 : (0 + x) * 8 ≤ 140737488355328 := by omega
          have u3 : 0 + x + 1 ≤ maxLen := by simp only [maxLen]; omega
          have u4 : (0 + x + 1) * 8 ≤ 140737488355328 := by omega
          have u5 : 0 + x + 1 + (k - x) ≤ maxLen := by simp only [maxLen]; omega
          have u6 : (0 + x + 1 + (k - x)) * 8 ≤ 140737488355328 := by omega
          have s4 := fs_src g1
          replace s4 := hide s4
          replace hput := hide hput; replace htk := hide htk; replace g1 := hide g1; replace g2 := hide g2; replace d1 := hide d1; replace d2 := hide d2; replace k1 := hide k1; replace k2 := hide k2
          replace u1 := hide u1; replace u2 := hide u2; replace u3 := hide u3; replace u4 := hide u4; replace u5 := hide u5; replace u6 := hide u6
          replace hlo := hide hlo; replace hxd := hide hxd
          go_wp2_with (first
            | (at_builtin
               refine wpList_app _ rfl (.const (.slice none 0 0)) (.tmp 32) 33 rfl wr.heap.size 22 i0 _ 1 8 Try.underlying33 hi0 hz0 hz1 hz2 rfl (Nat.succ_pos _) _ 0 [] rfl (World.ownsRow_nil _ _ _ _) A1 x q1 ((d.take x).map (Value.float .f64)) rfl (unhide k1) (unhide s4) (fl_ones _) (unhide u1) (unhide u2) (Nat.le_refl _) ?_
               intro v1 w1 o1 gr1
               have b1 : Below wr.heap.size wr w1 := (Below.refl _ _).grown gr1 (Nat.le_refl _) (by intro k hk; cases hk)
               have b2 : Below wr.heap.size wr (w1.alloc (.cells #[.float .f64 f] 22)) := bl_alloc b1 _
               have o2 := own_alloc o1 (.cells #[.float .f64 f] 22)
               have L1 : SrcOk (w1.alloc (.cells #[.float .f64 f] 22)) (some ⟨w1.heap.size, 0, none⟩) 1 [.float .f64 f] := src_lit w1 f
               have z9 : wr.heap.size ≤ (w1.alloc (.cells #[.float .f64 f] 22)).heap.size := b2.size
               replace b1 := hide b1; replace b2 := hide b2; replace o1 := hide o1; replace o2 := hide o2; replace L1 := hide L1; replace z9 := hide z9; clear gr1)
            | (at_builtin
               refine wpList_app _ rfl (.tmp 34) (.tmp 36) 33 rfl wr.heap.size 22 i0 _ 1 8 Try.underlying33 hi0 hz0 hz1 hz2 rfl (Nat.succ_pos _) _ (0 + x) _ rfl (unhide o2) (some ⟨w1.heap.size, 0, none⟩) 1 1 [.float .f64 f] rfl rfl (unhide L1) (fl_ones [f]) (unhide u3) (unhide u4) (unhide z9) ?_
               intro v2 w2 o3 gr2
               have b3 : Below wr.heap.size wr w2 := (unhide b2).grown gr2 (unhide z9) (own_base (unhide o2))
               have L2 := fs_src ((unhide g2).below b3 (Nat.le_refl _))
               have z8 : wr.heap.size ≤ w2.heap.size := b3.size
               replace b3 := hide b3; replace o3 := hide o3; replace L2 := hide L2; replace z8 := hide z8; clear gr2)
            | (at_builtin
               refine wpList_app _ rfl (.tmp 38) (.tmp 41) 33 rfl wr.heap.size 22 i0 _ 1 8 Try.underlying33 hi0 hz0 hz1 hz2 rfl (Nat.succ_pos _) _ (0 + x + 1) _ rfl (unhide o3) A2 (k - x) q2 ((d.drop x).map (Value.float .f64)) rfl (unhide k2) (unhide L2) (fl_ones _) (unhide u5) (unhide u6) (unhide z8) ?_
               intro v3 w3 o4 gr3
               have b4 : Below wr.heap.size wr w3 := (unhide b3).grown gr3 (unhide z8) (own_base (unhide o3))
               obtain ⟨A3, c3, rfl⟩ := ownsRow_form o4
               have e9 : 0 + x + 1 + (k - x) = k + 1 := by omega
               rw [e9] at o4
               have o5 : w3.ownsRow w.heap.size 22 1 (.slice A3 (k + 1) c3) (k + 1) ((put d x f).map (Value.float .f64)) := by
                 have := ownsRow_mono o4 (unhide hb).size
                 unfold put; simpa using this
               have b5 := (unhide hb).trans (b4.mono (unhide hb).size)
               replace o5 := hide o5; replace b5 := hide b5; clear o4 b4 gr3)
            | fail)
          go_roundw
          case rel => exact ⟨k + 1, A3, c3, put d x f, by omega, by go_num, (by rw [show x + 1 + (k - x) = k + 1 by omega]), o5, hput, b5⟩
          case measure => simp [intOf]; omega
    · go_wp2
      go_ret
      obtain rfl : k = n := by omega
      have hd' := unhide hd
      rw [unhide hn, List.take_length] at hd'
      have e1 : d.length = k := by rw [hd'.1, unhide hn]
      exact ⟨_, d, rfl, by rw [e1]; exact unhide ho, hd', unhide hb⟩
end Go.Proofs.Ytdnahdogohdmjaa
