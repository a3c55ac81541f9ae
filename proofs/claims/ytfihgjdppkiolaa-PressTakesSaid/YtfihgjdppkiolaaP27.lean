import Derived.Test.YtfihgjdppkiolaaP23
import Derived.Test.YtfihgjdppkiolaaP17
namespace Go.Proofs.Ytfihgjdppkiolaa
set_option maxRecDepth 100000
open Go.RowKit

/-- The cells of a reading by value. -/
abbrev rgc (A : Option Addr) (c : Nat) (r : Rdr) : Array Value := #[.slice A r.c.length c, .int .u32 r.span, .int .u32 r.code, .int .i64 r.used]
/-- A reading by value, its chances a row from 'lo' on, that may be. -/
structure RgT (lo : Nat) (w : World) (v : Value) (r : Rdr) (t : List Int) : Prop where
  o : RgO lo w v r
  ok : OkR r
  used : r.used ≤ t.length

set_option maxHeartbeats 800000 in
theorem refTree_any (lo lo' k : Nat) (c : Int) (v v' : Value) (r : Rdr) (t : List Int) (w : World) (hlo : lo ≤ w.heap.size) (hv : RgT lo w v r t) (hv' : Os lo' w.heap.size w v' t) (ht : okB t) (hl : t.length ≤ 1000000) (hk : k ≤ 8) (hc : 0 ≤ c ∧ c ≤ 528) :
    Calls Try.prog 59 #[v, v', .int .i64 k, .int .i64 c] w fun e w' =>
      ((∃ m r' v2, treeR t c k 1 r = some (m, r') ∧ e = .returned (.tuple #[.int .i64 ((m : Int) - 2 ^ k), v2, .bool true]) ∧ RgT lo w' v2 r' t) ∨
       (treeR t c k 1 r = none ∧ ∃ (B : Option Addr) (cB : Nat) (r1 : Rdr), e = .returned (.tuple #[.int .i64 0, .agg (rgc B cB r1), .bool false]))) ∧ Below w.heap.size w w' := by
  have hN := fun (i : Int) (r : Rdr) (A : Option Addr) (cA : Nat) (W : World) (h : W.ownsRow lo 3 1 (.slice A r.c.length cA) r.c.length (r.c.flatMap ivc)) (hb : Below w.heap.size w W) (ho : OkR r) (hu : r.used ≤ t.length) => refNext_any lo lo' i (.agg (rgc A cA r)) v' r t W (Nat.le_trans hlo hb.size) ⟨A, cA, rfl, h⟩ (hv'.grow hb) ho ht hl hu
  unfold rgc at hN
  obtain ⟨⟨A, cA, rfl, hI⟩, hok, hus⟩ := hv
  have hk2 : (1 : Int) * 2 ^ k ≤ 256 := by
    have : 2 ^ k ≤ 2 ^ 8 := Nat.pow_le_pow_right (by omega) hk
    have h2 : ((2 ^ k : Nat) : Int) ≤ 256 := by omega
    simpa using h2
  obtain ⟨g4, hg4⟩ : ∃ g4, g4 = w.heap.size := ⟨_, rfl⟩
  obtain ⟨g9, hg9⟩ : ∃ g9, g9 = w.heap.size + 1 := ⟨_, rfl⟩
  have K4 : Blk ((w.alloc (.cells #[.slice A r.c.length cA, .int .u32 r.span, .int .u32 r.code, .int .i64 r.used] 60)).alloc (.cells #[.slice none 0 0, .int .u32 0, .int .u32 0, .int .i64 0] 60)) g4 60 #[.slice A r.c.length cA, .int .u32 r.span, .int .u32 r.code, .int .i64 r.used] := (Blk.new hg4).alloc _
  have K9 : Blk ((w.alloc (.cells #[.slice A r.c.length cA, .int .u32 r.span, .int .u32 r.code, .int .i64 r.used] 60)).alloc (.cells #[.slice none 0 0, .int .u32 0, .int .u32 0, .int .i64 0] 60)) g9 60 #[.slice none 0 0, .int .u32 0, .int .u32 0, .int .i64 0] := Blk.new (by rw [hg9]; simp)
  have I1 := (hI.alloc (.cells #[.slice A r.c.length cA, .int .u32 r.span, .int .u32 r.code, .int .i64 r.used] 60)).alloc (.cells #[.slice none 0 0, .int .u32 0, .int .u32 0, .int .i64 0] 60)
  have B1 : Below w.heap.size w ((w.alloc (.cells #[.slice A r.c.length cA, .int .u32 r.span, .int .u32 r.code, .int .i64 r.used] 60)).alloc (.cells #[.slice none 0 0, .int .u32 0, .int .u32 0, .int .i64 0] 60)) := bl_alloc (bl_alloc (Below.refl _ _) _) _
  have hg4' : w.heap.size ≤ g4 := by omega
  have hg9' : w.heap.size ≤ g9 := by omega
  have hgn : g4 ≠ g9 := by omega
  replace hN := hide hN; replace hok := hide hok; replace hus := hide hus; replace K4 := hide K4; replace K9 := hide K9; replace I1 := hide I1; replace B1 := hide B1; replace hg4' := hide hg4'; replace hg9' := hide hg9'; replace hgn := hide hgn
  have ht0 := ht
  clear hI hv' ht hl
  go_enter Try.func59, Try.ntmps59
  go_wp2_with fail
  rw [← hg9, ← hg4]
  clear hg4 hg9 hlo
  go_loopw [11, 16] (fun s11 i wr => ∃ (j m cB : Nat) (r1 : Rdr) (B : Option Addr), j ≤ k ∧ s11 = .int .i64 m ∧ i = .int .i64 j ∧ Hid (m < 2 ^ (j + 1)) ∧ 1 ≤ m ∧ m < 1024 ∧ Hid (treeR t c k 1 r = treeR t c (k - j) m r1) ∧ Hid (Blk wr g4 60 #[.slice B r1.c.length cB, .int .u32 r1.span, .int .u32 r1.code, .int .i64 r1.used]) ∧ Hid (Blk wr g9 60 #[.slice none 0 0, .int .u32 0, .int .u32 0, .int .i64 0]) ∧ Hid (wr.ownsRow lo 3 1 (.slice B r1.c.length cB) r1.c.length (r1.c.flatMap ivc)) ∧ Hid (OkR r1) ∧ Hid (r1.used ≤ t.length) ∧ Hid (Below w.heap.size w wr)) (fun _ i _ => 8 - (intOf i).toNat)
  case atStart => exact ⟨0, 1, cA, r, A, by omega, rfl, rfl, hide (by decide), by omega, by omega, hide rfl, K4, K9, I1, hok, hus, B1⟩
  case round =>
    obtain ⟨j, m, cB, r1, B, hj, rfl, rfl, hm, hm1, hm2, hq, K, Kz, I, ho, hu, hB⟩ := hrel
    have y4 := (unhide K).lt
    have q0 := (unhide K).cell 0; have q1 := (unhide K).cell 1; have q2 := (unhide K).cell 2; have q3 := (unhide K).cell 3
    have f0 := (unhide K).frozen 0; have f1 := (unhide K).frozen 1; have f2 := (unhide K).frozen 2; have f3 := (unhide K).frozen 3
    have y9 := (unhide Kz).lt
    have z0 := (unhide Kz).cell 0; have z1 := (unhide Kz).cell 1; have z2 := (unhide Kz).cell 2; have z3 := (unhide Kz).cell 3
    have e0 := (unhide Kz).frozen 0; have e1 := (unhide Kz).frozen 1; have e2 := (unhide Kz).frozen 2; have e3 := (unhide Kz).frozen 3
    simp at q0 q1 q2 q3 z0 z1 z2 z3
    by_cases hlt : j < k
    · have hN1 := unhide hN (c + m) r1 B cB wr (unhide I) (unhide hB) (unhide ho) (unhide hu)
      have ha := fun h => nextR_next t r1 (c + m) h c (k - (j + 1)) m rfl
      have hb := fun h => nextR_stop t r1 (c + m) h c (k - (j + 1)) m rfl
      rw [show k - (j + 1) + 1 = k - j by omega] at ha hb
      have ho1 := nextR_ok (i := c + m) ht0 (unhide ho)
      have hu1 := nextR_used (i := c + m) (unhide hu)
      generalize nextR t r1 (c + m) = X at *
      obtain ⟨b, r2, er⟩ := X
      simp only [] at hN1 ha hb ho1 hu1
      replace hN1 := hide hN1
      replace ho1 := hide ho1; replace hu1 := hide hu1
      by_cases h0 : er = 0
      · subst h0
        replace ha := hide (ha rfl)
        clear hb z0 z1 z2 z3 e0 e1 e2 e3
        cases b with
        | true =>
          have hm3 : 2 * m + 1 < 2 ^ (j + 1 + 1) := by rw [Nat.pow_succ]; have := unhide hm; omega
          have hm4 : 2 * m + 1 < 1024 := by
            have : 2 ^ (j + 1 + 1) ≤ 2 ^ 9 := Nat.pow_le_pow_right (by omega) (by omega)
            omega
          replace hm3 := hide hm3
          go_wp2_with (first
            | (go_at_call 58; refine (unhide hN1).mono ?_; rintro e w1 ⟨v2, rfl, ⟨A2, c2, rfl, o2⟩, hb1⟩
               have k4 := (unhide K).below hb1 (unhide K).lt
               have k9 := (unhide Kz).below hb1 (unhide Kz).lt
               have y4' := k4.lt
               have y9' := k9.lt
               have q0' := k4.cell 0; have q1' := k4.cell 1; have q2' := k4.cell 2; have q3' := k4.cell 3
               have f0' := k4.frozen 0; have f1' := k4.frozen 1; have f2' := k4.frozen 2; have f3' := k4.frozen 3
               simp at q0' q1' q2' q3'
               have g13 : g4 ≠ w1.heap.size := by omega
               have x2 := bl_call (unhide hB) hb1
               replace k4 := hide k4; replace k9 := hide k9; replace x2 := hide x2; replace o2 := hide o2; replace g13 := hide g13)
            | fail)
          go_roundw
          case rel => exact ⟨j + 1, 2 * m + 1, c2, r2, A2, by omega, by go_num, by go_num, hm3, by omega, hm4, hide (by rw [unhide hq, unhide ha]; rfl), hide ((unhide k4).set4.alloc _), hide ((set4_blk (unhide k9) (Ne.symm (unhide hgn))).alloc _), hide ((set4_own (unhide o2) (unhide k4) (by decide)).alloc _), ho1, hu1, hide (bl_alloc (set4_below (unhide x2) (unhide hg4')) _)⟩
          case measure => simp [intOf]; omega
        | false =>
          have hm3 : 2 * m + 0 < 2 ^ (j + 1 + 1) := by rw [Nat.pow_succ]; have := unhide hm; omega
          have hm4 : 2 * m + 0 < 1024 := by
            have : 2 ^ (j + 1 + 1) ≤ 2 ^ 9 := Nat.pow_le_pow_right (by omega) (by omega)
            omega
          replace hm3 := hide hm3
          go_wp2_with (first
            | (go_at_call 58; refine (unhide hN1).mono ?_; rintro e w1 ⟨v2, rfl, ⟨A2, c2, rfl, o2⟩, hb1⟩
               have k4 := (unhide K).below hb1 (unhide K).lt
               have k9 := (unhide Kz).below hb1 (unhide Kz).lt
               have y4' := k4.lt
               have y9' := k9.lt
               have q0' := k4.cell 0; have q1' := k4.cell 1; have q2' := k4.cell 2; have q3' := k4.cell 3
               have f0' := k4.frozen 0; have f1' := k4.frozen 1; have f2' := k4.frozen 2; have f3' := k4.frozen 3
               simp at q0' q1' q2' q3'
               have g13 : g4 ≠ w1.heap.size := by omega
               have x2 := bl_call (unhide hB) hb1
               replace k4 := hide k4; replace k9 := hide k9; replace x2 := hide x2; replace o2 := hide o2; replace g13 := hide g13)
            | fail)
          go_roundw
          case rel => exact ⟨j + 1, 2 * m + 0, c2, r2, A2, by omega, by go_num, by go_num, hm3, by omega, hm4, hide (by rw [unhide hq, unhide ha]; rfl), hide ((unhide k4).set4.alloc _), hide ((set4_blk (unhide k9) (Ne.symm (unhide hgn))).alloc _), hide ((set4_own (unhide o2) (unhide k4) (by decide)).alloc _), ho1, hu1, hide (bl_alloc (set4_below (unhide x2) (unhide hg4')) _)⟩
          case measure => simp [intOf]; omega
      · replace hb := hide (hb h0)
        clear ha
        have h0' : (er == 0) = false := by simpa using h0
        go_wp2_with (first
          | (go_at_call 58; refine (unhide hN1).mono ?_; rintro e w1 ⟨v2, rfl, ⟨A2, c2, rfl, o2⟩, hb1⟩
             have k4 := (unhide K).below hb1 (unhide K).lt
             have k9 := (unhide Kz).below hb1 (unhide Kz).lt
             have y4' := k4.lt
             have y9' := k9.lt
             have q0' := k4.cell 0; have q1' := k4.cell 1; have q2' := k4.cell 2; have q3' := k4.cell 3
             have f0' := k4.frozen 0; have f1' := k4.frozen 1; have f2' := k4.frozen 2; have f3' := k4.frozen 3
             simp at q0' q1' q2' q3'
             have z0' := k9.cell 0; have z1' := k9.cell 1; have z2' := k9.cell 2; have z3' := k9.cell 3
             have e0' := k9.frozen 0; have e1' := k9.frozen 1; have e2' := k9.frozen 2; have e3' := k9.frozen 3
             simp at z0' z1' z2' z3'
             replace k4 := hide k4; replace k9 := hide k9)
          | fail)
        go_region
        all_goals go_wp2_with fail
        all_goals
          refine ret_nx rfl g9 (.slice B r1.c.length cB) (.int .u32 r1.span) (.int .u32 r1.code) (.int .i64 r1.used) (.int .i64 0) (.bool false) rfl rfl rfl (((unhide k9).set4.alloc _).drew) rfl ?_
          exact ⟨.inr ⟨by rw [unhide hq]; exact unhide hb, B, cB, r1, rfl⟩, Below.drew (bl_alloc (set4_below (bl_call (unhide hB) hb1) (unhide hg9')) _)⟩
    · obtain rfl : j = k := by omega
      have hq2 : treeR t c j 1 r = some (m, r1) := by rw [unhide hq, Nat.sub_self]; rfl
      replace hq2 := hide hq2
      have hj8 : (j : Int) ≤ 8 := by omega
      have p0 : (0 : Int) ≤ 2 ^ j := Int.pow_nonneg (by omega)
      have p1 : wrap64 ((2 : Int) ^ j) = 2 ^ j := IntWalk.wrap64_in _ (by omega)
      have p2 : wrap64 ((m : Int) - 2 ^ j) = (m : Int) - 2 ^ j := IntWalk.wrap64_in _ (by omega)
      clear hq hlt hm
      go_wp2_with fail
      go_region
      all_goals go_wp2_with fail
      all_goals
        refine ret_nx rfl g9 (.slice B r1.c.length cB) (.int .u32 r1.span) (.int .u32 r1.code) (.int .i64 r1.used) (.int .i64 ((m : Int) - 2 ^ j)) (.bool true) rfl rfl rfl (by first | exact (unhide Kz).set4.drew | exact (unhide Kz).set4) rfl ?_
        exact ⟨.inl ⟨m, r1, _, unhide hq2, rfl, ⟨⟨B, cB, rfl, own_drew (set4_own (unhide I) (unhide Kz) (by decide))⟩, unhide ho, unhide hu⟩⟩, Below.drew (set4_below (unhide hB) (unhide hg9'))⟩

section
variable (lo lo' k : Nat) (c : Int) (v v' : Value) (r : Rdr) (t : List Int) (w : World) (hlo : lo ≤ w.heap.size) (hv : RgT lo w v r t) (hv' : Os lo' w.heap.size w v' t) (ht : okB t) (hl : t.length ≤ 1000000) (hk : k ≤ 8) (hc : 0 ≤ c ∧ c ≤ 528)
include hlo hv hv' ht hl hk hc in
theorem refTree_some (m : Nat) (r' : Rdr) (h : treeR t c k 1 r = some (m, r')) :
    Calls Try.prog 59 #[v, v', .int .i64 k, .int .i64 c] w fun e w' => ∃ A2 c2, e = .returned (.tuple #[.int .i64 ((m : Int) - 2 ^ k), .agg (rgc A2 c2 r'), .bool true]) ∧ w'.ownsRow lo 3 1 (.slice A2 r'.c.length c2) r'.c.length (r'.c.flatMap ivc) ∧ OkR r' ∧ r'.used ≤ t.length ∧ Below w.heap.size w w' :=
  (refTree_any lo lo' k c v v' r t w hlo hv hv' ht hl hk hc).mono fun e w' ⟨ho, hb⟩ => by
    rcases ho with ⟨m', r2, v2, h1, h2, ⟨⟨A2, c2, rfl, h4⟩, h5, h6⟩⟩ | ⟨h1, _⟩
    · rw [h] at h1
      injection h1 with h1
      injection h1 with e1 e2
      subst e1 e2
      exact ⟨A2, c2, h2, h4, h5, h6, hb⟩
    · rw [h] at h1; cases h1
include hlo hv hv' ht hl hk hc in
theorem refTree_none (h : treeR t c k 1 r = none) :
    Calls Try.prog 59 #[v, v', .int .i64 k, .int .i64 c] w fun e w' => ∃ (B : Option Addr) (cB : Nat) (r1 : Rdr), e = .returned (.tuple #[.int .i64 0, .agg (rgc B cB r1), .bool false]) ∧ Below w.heap.size w w' :=
  (refTree_any lo lo' k c v v' r t w hlo hv hv' ht hl hk hc).mono fun e w' ⟨ho, hb⟩ => by
    rcases ho with ⟨m', r2, v2, h1, _⟩ | ⟨_, B, cB, r1, h2⟩
    · rw [h] at h1; cases h1
    · exact ⟨B, cB, r1, h2, hb⟩
end
end Go.Proofs.Ytfihgjdppkiolaa
