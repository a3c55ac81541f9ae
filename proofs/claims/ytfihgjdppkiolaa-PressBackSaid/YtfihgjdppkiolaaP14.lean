import Derived.Test.YtfihgjdppkiolaaP13
namespace Go.Proofs.Ytfihgjdppkiolaa
set_option maxRecDepth 100000
open Go.RowKit

theorem tokR_stop {t : List Int} {r : Rdr} (h : (nextR t r 0).2.2 ≠ 0) : tokR t r = none := by unfold tokR; rw [if_neg h]
theorem tokR_again {t : List Int} {r : Rdr} (h : (nextR t r 0).2.2 = 0) (hb : (nextR t r 0).1 = true) : tokR t r = (match treeR t 256 4 1 (nextR t r 0).2.1 with
        | none => none
        | some (m, r1) => match treeR t 272 8 1 r1 with
          | none => none
          | some (q, r2) => some (⟨0, (m : Int) - 16 + 3, (q : Int) - 256 + 1⟩, r2)) := by unfold tokR; rw [if_pos h, hb]; rfl
theorem tokR_lit {t : List Int} {r : Rdr} (h : (nextR t r 0).2.2 = 0) (hb : (nextR t r 0).1 = false) : tokR t r = (match treeR t 0 8 1 (nextR t r 0).2.1 with
      | none => none
      | some (m, r1) => some (⟨UInt8.ofNat (m - 256), 0, 0⟩, r1)) := by unfold tokR; rw [if_pos h, hb]; rfl

section
variable (base g gc cc gt ct : Nat) (r : Rdr) (t : List Int) (w : World) (hW : Rd1 base g gc cc gt ct w r t) (ht : okB t) (hl : t.length ≤ 1000000) (hcl : 0 < r.c.length)

include hW ht hl hcl in
theorem readAgain_some (m : Nat) (r1 : Rdr) (h : treeR t 256 4 1 r = some (m, r1)) (q : Nat) (r2 : Rdr) (h2 : treeR t 272 8 1 r1 = some (q, r2)) :
    Calls Try.prog 74 #[.pointer (some ⟨g, 0, none⟩)] w fun e w' => e = .returned (.tuple #[tkV ⟨0, (m : Int) - 16 + 3, (q : Int) - 256 + 1⟩, .int .i64 0]) ∧ Rd1 base g gc cc gt ct w' r2 t ∧ But [g, gc] w w' :=
  (readAgain_two base g gc cc gt ct r t w hW ht hl hcl m r1 h).mono fun e w' ⟨ho, hb⟩ => by
    rcases ho with ⟨q', r', h1, h3, h4⟩ | ⟨h1, _⟩
    · rw [h2] at h1
      injection h1 with h1
      injection h1 with e1 e2
      subst e1 e2
      exact ⟨h3, h4, hb⟩
    · rw [h2] at h1; cases h1
include hW ht hl hcl in
theorem readAgain_none (m : Nat) (r1 : Rdr) (h : treeR t 256 4 1 r = some (m, r1)) (h2 : treeR t 272 8 1 r1 = none) :
    Calls Try.prog 74 #[.pointer (some ⟨g, 0, none⟩)] w fun e w' => ∃ er : Int, (er == 0) = false ∧ e = .returned (.tuple #[tkV ⟨0, 0, 0⟩, .int .i64 er]) ∧ But [g, gc] w w' :=
  (readAgain_two base g gc cc gt ct r t w hW ht hl hcl m r1 h).mono fun e w' ⟨ho, hb⟩ => by
    rcases ho with ⟨q', r', h1, _⟩ | ⟨_, er, h3, h4⟩
    · rw [h2] at h1; cases h1
    · exact ⟨er, h3, h4, hb⟩

set_option maxHeartbeats 1000000 in
include hW ht hl hcl in
theorem readTok_any :
    Calls Try.prog 55 #[.pointer (some ⟨g, 0, none⟩)] w fun e w' =>
      ((∃ x r', tokR t r = some (x, r') ∧ e = .returned (.tuple #[tkV x, .int .i64 0]) ∧ Rd1 base g gc cc gt ct w' r' t) ∨
       (tokR t r = none ∧ ∃ er : Int, (er == 0) = false ∧ e = .returned (.tuple #[tkV ⟨0, 0, 0⟩, .int .i64 er]))) ∧ But [g, gc] w w' := by
  have hN := fun (W : World) (h : Rd1 base g gc cc gt ct W r t) => Next_any base g gc cc gt ct 0 r t W h.rd h.ok ht hl h.used
  have ho := nextR_ok (i := 0) ht hW.ok
  have hu := nextR_used (i := 0) hW.used
  have hcl2 : 0 < (nextR t r 0).2.1.c.length := by rw [nextR_c]; exact hcl
  have hs := tokR_stop (t := t) (r := r)
  have ha := tokR_again (t := t) (r := r)
  have hli := tokR_lit (t := t) (r := r)
  obtain ⟨hg1, hg2⟩ := hW.rd.lt hcl
  generalize nextR t r 0 = X at *
  obtain ⟨b, r1, er⟩ := X
  simp only [] at hN ho hu hcl2 hs ha hli
  by_cases h0 : er = 0
  · subst h0
    replace hW := hide hW
    clear hs
    cases b with
    | true =>
      replace ha := ha rfl rfl
      clear hli
      cases h1 : treeR t 256 4 1 r1 with
      | none =>
        have hA := fun (W : World) (k : Rd1 base g gc cc gt ct W r1 t) => readAgain_none1 base g gc cc gt ct r1 t W k ht hl hcl2 h1
        rw [h1] at ha
        replace hN := hide hN; replace hA := hide hA; replace ha := hide ha; replace hg1 := hide hg1; replace hg2 := hide hg2; replace ho := hide ho; replace hu := hide hu
        clear hcl hcl2 h1
        go_enter Try.func55, Try.ntmps55
        go_wp2_with (first
          | (go_at_call 73; refine (unhide hN _ ((unhide hW).alloc _)).mono ?_; rintro e w1 ⟨rfl, R1, hb1⟩
             obtain ⟨K1, B1⟩ := but_new hb1 (unhide hg1) (unhide hg2) rfl (Blk.new (cs := #[.int .u8 0, .int .i64 0, .int .i64 0]) rfl)
             replace R1 := hide (Rd1.mk R1 (unhide ho) (unhide hu)); replace K1 := hide K1; replace B1 := hide B1
             clear hb1)
          | (go_at_call 74; refine (unhide hA _ (unhide R1)).mono ?_; rintro e w2 ⟨er, he, rfl, hb2⟩
             have KK := (unhide K1).but hb2 (by have := unhide hg1; have := unhide hg2; simp; omega)
             have BB := (unhide B1).trans hb2
             have y0 := KK.lt
             have q0 := KK.cell 0; have q1 := KK.cell 1; have q2 := KK.cell 2
             have f0 := KK.frozen 0; have f1 := KK.frozen 1; have f2 := KK.frozen 2
             simp at q0 q1 q2
             clear hb2)
          | fail)
        exact ret_tk rfl w.heap.size (.int .u8 0) (.int .i64 0) (.int .i64 0) (.int .i64 er) rfl rfl KK.set3 rfl ⟨.inr ⟨unhide ha, er, he, rfl⟩, BB.set3 (Nat.le_refl _) _ _ _⟩
      | some x =>
        obtain ⟨m, r2⟩ := x
        rw [h1] at ha
        simp only [] at ha
        cases h2 : treeR t 272 8 1 r2 with
        | none =>
          have hA := fun (W : World) (k : Rd1 base g gc cc gt ct W r1 t) => readAgain_none base g gc cc gt ct r1 t W k ht hl hcl2 m r2 h1 h2
          rw [h2] at ha
          replace hN := hide hN; replace hA := hide hA; replace ha := hide ha; replace hg1 := hide hg1; replace hg2 := hide hg2; replace ho := hide ho; replace hu := hide hu
          clear hcl hcl2 h1 h2
          go_enter Try.func55, Try.ntmps55
          go_wp2_with (first
            | (go_at_call 73; refine (unhide hN _ ((unhide hW).alloc _)).mono ?_; rintro e w1 ⟨rfl, R1, hb1⟩
               obtain ⟨K1, B1⟩ := but_new hb1 (unhide hg1) (unhide hg2) rfl (Blk.new (cs := #[.int .u8 0, .int .i64 0, .int .i64 0]) rfl)
               replace R1 := hide (Rd1.mk R1 (unhide ho) (unhide hu)); replace K1 := hide K1; replace B1 := hide B1
               clear hb1)
            | (go_at_call 74; refine (unhide hA _ (unhide R1)).mono ?_; rintro e w2 ⟨er, he, rfl, hb2⟩
               have KK := (unhide K1).but hb2 (by have := unhide hg1; have := unhide hg2; simp; omega)
               have BB := (unhide B1).trans hb2
               have y0 := KK.lt
               have q0 := KK.cell 0; have q1 := KK.cell 1; have q2 := KK.cell 2
               have f0 := KK.frozen 0; have f1 := KK.frozen 1; have f2 := KK.frozen 2
               simp at q0 q1 q2
               clear hb2)
            | fail)
          exact ret_tk rfl w.heap.size (.int .u8 0) (.int .i64 0) (.int .i64 0) (.int .i64 er) rfl rfl KK.set3 rfl ⟨.inr ⟨unhide ha, er, he, rfl⟩, BB.set3 (Nat.le_refl _) _ _ _⟩
        | some x =>
          obtain ⟨q, r3⟩ := x
          have hA := fun (W : World) (k : Rd1 base g gc cc gt ct W r1 t) => readAgain_some base g gc cc gt ct r1 t W k ht hl hcl2 m r2 h1 q r3 h2
          rw [h2] at ha
          simp only [] at ha
          generalize (m : Int) - 16 + 3 = L at *
          generalize (q : Int) - 256 + 1 = D at *
          replace hN := hide hN; replace hA := hide hA; replace ha := hide ha; replace hg1 := hide hg1; replace hg2 := hide hg2; replace ho := hide ho; replace hu := hide hu
          clear hcl hcl2 h1 h2
          go_enter Try.func55, Try.ntmps55
          go_wp2_with (first
            | (go_at_call 73; refine (unhide hN _ ((unhide hW).alloc _)).mono ?_; rintro e w1 ⟨rfl, R1, hb1⟩
               obtain ⟨K1, B1⟩ := but_new hb1 (unhide hg1) (unhide hg2) rfl (Blk.new (cs := #[.int .u8 0, .int .i64 0, .int .i64 0]) rfl)
               replace R1 := hide (Rd1.mk R1 (unhide ho) (unhide hu)); replace K1 := hide K1; replace B1 := hide B1
               clear hb1)
            | (go_at_call 74; refine (unhide hA _ (unhide R1)).mono ?_; rintro e w2 ⟨rfl, R2, hb2⟩
               have KK := (unhide K1).but hb2 (by have := unhide hg1; have := unhide hg2; simp; omega)
               have BB := (unhide B1).trans hb2
               have y0 := KK.lt
               have q0 := KK.cell 0; have q1 := KK.cell 1; have q2 := KK.cell 2
               have f0 := KK.frozen 0; have f1 := KK.frozen 1; have f2 := KK.frozen 2
               simp at q0 q1 q2
               clear hb2)
            | fail)
          exact ret_tk rfl w.heap.size (.int .u8 0) (.int .i64 L) (.int .i64 D) (.int .i64 0) rfl rfl KK.set3 rfl ⟨.inl ⟨⟨0, L, D⟩, r3, unhide ha, rfl, R2.set3 KK _ _ _⟩, BB.set3 (Nat.le_refl _) _ _ _⟩
    | false =>
      replace hli := hli rfl rfl
      clear ha
      cases h1 : treeR t 0 8 1 r1 with
      | none =>
        have hA := fun (W : World) (k : Rd1 base g gc cc gt ct W r1 t) => readNum_none base g gc cc gt ct 8 0 r1 t h1 W k ht hl (by omega) (by omega)
        rw [h1] at hli
        have ha := hli
        clear hli
        replace hN := hide hN; replace hA := hide hA; replace ha := hide ha; replace hg1 := hide hg1; replace hg2 := hide hg2; replace ho := hide ho; replace hu := hide hu
        clear hcl hcl2 h1
        go_enter Try.func55, Try.ntmps55
        go_wp2_with (first
          | (go_at_call 73; refine (unhide hN _ ((unhide hW).alloc _)).mono ?_; rintro e w1 ⟨rfl, R1, hb1⟩
             obtain ⟨K1, B1⟩ := but_new hb1 (unhide hg1) (unhide hg2) rfl (Blk.new (cs := #[.int .u8 0, .int .i64 0, .int .i64 0]) rfl)
             replace R1 := hide (Rd1.mk R1 (unhide ho) (unhide hu)); replace K1 := hide K1; replace B1 := hide B1
             clear hb1)
          | (go_at_call 75; refine (unhide hA _ (unhide R1)).mono ?_; rintro e w2 ⟨er, he, rfl, hb2⟩
             have KK := (unhide K1).but hb2 (by have := unhide hg1; have := unhide hg2; simp; omega)
             have BB := (unhide B1).trans hb2
             have y0 := KK.lt
             have q0 := KK.cell 0; have q1 := KK.cell 1; have q2 := KK.cell 2
             have f0 := KK.frozen 0; have f1 := KK.frozen 1; have f2 := KK.frozen 2
             simp at q0 q1 q2
             clear hb2)
          | fail)
        exact ret_tk rfl w.heap.size (.int .u8 0) (.int .i64 0) (.int .i64 0) (.int .i64 er) rfl rfl KK.set3 rfl ⟨.inr ⟨unhide ha, er, he, rfl⟩, BB.set3 (Nat.le_refl _) _ _ _⟩
      | some x =>
        obtain ⟨m, r2⟩ := x
        have hA := fun (W : World) (k : Rd1 base g gc cc gt ct W r1 t) => readNum_some base g gc cc gt ct 8 0 r1 t m r2 h1 W k ht hl (by omega) (by omega)
        have hge := treeR_ge 8 1 h1
        simp at hge
        have hb8 : (m : Int) - 2 ^ ((8 : Nat)) = ((m - 256 : Nat) : Int) := by omega
        rw [hb8] at hA
        have hm8 : m - 256 < 256 := by omega
        rw [h1] at hli
        simp only [] at hli
        have ha := hli
        have hx : ((m - 256 : Nat) : Int) = M.n8 (UInt8.ofNat (m - 256)) := by unfold M.n8; simp; omega
        generalize m - 256 = V at *
        clear hb8 hge hli
        replace hN := hide hN; replace hA := hide hA; replace hx := hide hx; replace ha := hide ha; replace hg1 := hide hg1; replace hg2 := hide hg2; replace ho := hide ho; replace hu := hide hu
        clear hcl hcl2 h1
        go_enter Try.func55, Try.ntmps55
        go_wp2_with (first
          | (go_at_call 73; refine (unhide hN _ ((unhide hW).alloc _)).mono ?_; rintro e w1 ⟨rfl, R1, hb1⟩
             obtain ⟨K1, B1⟩ := but_new hb1 (unhide hg1) (unhide hg2) rfl (Blk.new (cs := #[.int .u8 0, .int .i64 0, .int .i64 0]) rfl)
             replace R1 := hide (Rd1.mk R1 (unhide ho) (unhide hu)); replace K1 := hide K1; replace B1 := hide B1
             clear hb1)
          | (go_at_call 75; refine (unhide hA _ (unhide R1)).mono ?_; rintro e w2 ⟨rfl, R2, hb2⟩
             have KK := (unhide K1).but hb2 (by have := unhide hg1; have := unhide hg2; simp; omega)
             have BB := (unhide B1).trans hb2
             have y0 := KK.lt
             have q0 := KK.cell 0; have q1 := KK.cell 1; have q2 := KK.cell 2
             have f0 := KK.frozen 0; have f1 := KK.frozen 1; have f2 := KK.frozen 2
             simp at q0 q1 q2
             clear hb2)
          | fail)
        exact ret_tk rfl w.heap.size (.int .u8 (V : Int)) (.int .i64 0) (.int .i64 0) (.int .i64 0) rfl rfl KK.set3 rfl ⟨.inl ⟨⟨UInt8.ofNat V, 0, 0⟩, r2, unhide ha, by rw [unhide hx], R2.set3 KK _ _ _⟩, BB.set3 (Nat.le_refl _) _ _ _⟩
  · have h0' : (er == 0) = false := by simpa using h0
    have ha := hs h0
    replace hW := hide hW
    clear hs hli
    replace hN := hide hN;  replace ha := hide ha; replace hg1 := hide hg1; replace hg2 := hide hg2; replace ho := hide ho; replace hu := hide hu
    clear hcl hcl2 
    go_enter Try.func55, Try.ntmps55
    go_wp2_with (first
      | (go_at_call 73; refine (unhide hN _ ((unhide hW).alloc _)).mono ?_; rintro e w1 ⟨rfl, R1, hb1⟩
         obtain ⟨K1, B1⟩ := but_new hb1 (unhide hg1) (unhide hg2) rfl (Blk.new (cs := #[.int .u8 0, .int .i64 0, .int .i64 0]) rfl)
         have y0 := K1.lt; have q0 := K1.cell 0; have q1 := K1.cell 1; have q2 := K1.cell 2; have f0 := K1.frozen 0; have f1 := K1.frozen 1; have f2 := K1.frozen 2; simp at q0 q1 q2
         clear hb1)
      | fail)
    exact ret_tk rfl w.heap.size (.int .u8 0) (.int .i64 0) (.int .i64 0) (.int .i64 er) rfl rfl K1.set3 rfl ⟨.inr ⟨unhide ha, er, h0', rfl⟩, B1.set3 (Nat.le_refl _) _ _ _⟩
include hW ht hl hcl in
theorem readTok_some (x : Tok) (r' : Rdr) (h : tokR t r = some (x, r')) :
    Calls Try.prog 55 #[.pointer (some ⟨g, 0, none⟩)] w fun e w' => e = .returned (.tuple #[tkV x, .int .i64 0]) ∧ Rd1 base g gc cc gt ct w' r' t ∧ But [g, gc] w w' :=
  (readTok_any base g gc cc gt ct r t w hW ht hl hcl).mono fun e w' ⟨ho, hb⟩ => by
    rcases ho with ⟨q', r2, h1, h3, h4⟩ | ⟨h1, _⟩
    · rw [h] at h1
      injection h1 with h1
      injection h1 with e1 e2
      subst e1 e2
      exact ⟨h3, h4, hb⟩
    · rw [h] at h1; cases h1
include hW ht hl hcl in
theorem readTok_none (h : tokR t r = none) :
    Calls Try.prog 55 #[.pointer (some ⟨g, 0, none⟩)] w fun e w' => ∃ er : Int, (er == 0) = false ∧ e = .returned (.tuple #[tkV ⟨0, 0, 0⟩, .int .i64 er]) ∧ But [g, gc] w w' :=
  (readTok_any base g gc cc gt ct r t w hW ht hl hcl).mono fun e w' ⟨ho, hb⟩ => by
    rcases ho with ⟨q', r', h1, _⟩ | ⟨_, er, h3, h4⟩
    · rw [h] at h1; cases h1
    · exact ⟨er, h3, h4, hb⟩
end
end Go.Proofs.Ytfihgjdppkiolaa
