import Derived.Test.YthkccpemgmpadaaGreatDoorU20
import Derived.Test.YthkccpemgmpadaaGreatDoorU18
import Derived.Test.YthkccpemgmpadaaGreatDoorU13
namespace Go.Proofs.YthkccpemgmpadaaGreatDoor.P
set_option maxRecDepth 100000
open Go.RowKit
theorem tokR_stop {t : List Int} {r : Rdr} (h : (nextR t r 0).2.2 ≠ 0) : tokR t r = none := by unfold tokR; rw [if_neg h]
theorem tokR_again {t : List Int} {r : Rdr} (h : (nextR t r 0).2.2 = 0) (hb : (nextR t r 0).1 = true) : tokR t r = (match treeR t 256 4 1 (nextR t r 0).2.1 with
        | none => none
        | some (m, r1) => match treeR t 272 8 1 r1 with
          | none => none
          | some (q, r2) => some (⟨0, (m : Int) - 16 + 3, (q : Int) - 256 + 1⟩, r2)) := by unfold tokR; rw [if_pos h, hb]; rfl
theorem tokR_lit {t : List Int} {r : Rdr} (h : (nextR t r 0).2.2 = 0) (hb : (nextR t r 0).1 = false) : tokR t r = (match treeR t 0 8 1 (nextR t r 0).2.1 with
      | none => none
      | some (m, r1) => some (⟨UInt8.ofNat (m - 256), 0, 0⟩, r1)) := by unfold tokR; rw [if_pos h, hb]; rfl
section
variable (base g gc cc gt ct : Nat) (r : Rdr) (t : List Int) (w : World) (hW : Rd1 base g gc cc gt ct w r t) (ht : okB t) (hl : t.length ≤ 1000000) (hcl : 0 < r.c.length)
include hW ht hl hcl in
theorem readAgain_some (m : Nat) (r1 : Rdr) (h : treeR t 256 4 1 r = some (m, r1)) (q : Nat) (r2 : Rdr) (h2 : treeR t 272 8 1 r1 = some (q, r2)) :
    Calls Tryz.prog 129 #[.pointer (some ⟨g, 0, none⟩)] w fun e w' => e = .returned (.tuple #[tkV ⟨0, (m : Int) - 16 + 3, (q : Int) - 256 + 1⟩, .int .i64 0]) ∧ Rd1 base g gc cc gt ct w' r2 t ∧ But [g, gc] w w' :=
  (readAgain_two base g gc cc gt ct r t w hW ht hl hcl m r1 h).mono fun e w' ⟨ho, hb⟩ => by
    rcases ho with ⟨q', r', h1, h3, h4⟩ | ⟨h1, _⟩
    · rw [h2] at h1
      injection h1 with h1
      injection h1 with e1 e2
      subst e1 e2
      exact ⟨h3, h4, hb⟩
    · rw [h2] at h1; cases h1
include hW ht hl hcl in
theorem readAgain_none (m : Nat) (r1 : Rdr) (h : treeR t 256 4 1 r = some (m, r1)) (h2 : treeR t 272 8 1 r1 = none) :
    Calls Tryz.prog 129 #[.pointer (some ⟨g, 0, none⟩)] w fun e w' => ∃ er : Int, (er == 0) = false ∧ e = .returned (.tuple #[tkV ⟨0, 0, 0⟩, .int .i64 er]) ∧ But [g, gc] w w' :=
  (readAgain_two base g gc cc gt ct r t w hW ht hl hcl m r1 h).mono fun e w' ⟨ho, hb⟩ => by
    rcases ho with ⟨q', r', h1, _⟩ | ⟨_, er, h3, h4⟩
    · rw [h2] at h1; cases h1
    · exact ⟨er, h3, h4, hb⟩
set_option maxHeartbeats 1000000 in
include hW ht hl hcl in
theorem readTok_any :
    Calls Tryz.prog 109 #[.pointer (some ⟨g, 0, none⟩)] w fun e w' =>
      ((∃ x r', tokR t r = some (x, r') ∧ e = .returned (.tuple #[tkV x, .int .i64 0]) ∧ Rd1 base g gc cc gt ct w' r' t) ∨
       (tokR t r = none ∧ ∃ er : Int, (er == 0) = false ∧ e = .returned (.tuple #[tkV ⟨0, 0, 0⟩, .int .i64 er]))) ∧ But [g, gc] w w' := by
  have hN := fun (W : World) (h : Rd1 base g gc cc gt ct W r t) => Next_any base g gc cc gt ct 0 r t W h.rd h.ok ht hl h.used
  have ho := nextR_ok (i := 0) ht hW.ok
  have hu := nextR_used (i := 0) hW.used
  have hcl2 : 0 < (nextR t r 0).2.1.c.length := by rw [nextR_c]; exact hcl
  have hs := tokR_stop (t := t) (r := r)
  have ha := tokR_again (t := t) (r := r)
  have hli := tokR_lit (t := t) (r := r)
  obtain ⟨hg1, hg2⟩ := hW.rd.lt hcl
  generalize nextR t r 0 = X at *
  obtain ⟨b, r1, er⟩ := X
  simp only [] at hN ho hu hcl2 hs ha hli
  by_cases h0 : er = 0
  · subst h0
    replace hW := hide hW
    clear hs
    cases b with
    | true =>
      replace ha := ha rfl rfl
      clear hli
      cases h1 : treeR t 256 4 1 r1 with
      | none =>
        have hA := fun (W : World) (k : Rd1 base g gc cc gt ct W r1 t) => readAgain_none1 base g gc cc gt ct r1 t W k ht hl hcl2 h1
        rw [h1] at ha
        replace hN := hide hN; replace hA := hide hA; replace ha := hide ha; replace hg1 := hide hg1; replace hg2 := hide hg2; replace ho := hide ho; replace hu := hide hu
        clear hcl hcl2 h1
        go_enter Tryz.func109, Tryz.ntmps109
        go_wp2_with (first
          | (go_at_call 128; refine (unhide hN _ ((unhide hW).alloc _)).mono ?_; rintro e w1 ⟨rfl, R1, hb1⟩
             obtain ⟨K1, B1⟩ := but_new hb1 (unhide hg1) (unhide hg2) rfl (Blk.new (cs := #[.int .u8 0, .int .i64 0, .int .i64 0]) rfl)
             replace R1 := hide (Rd1.mk R1 (unhide ho) (unhide hu)); replace K1 := hide K1; replace B1 := hide B1
             clear hb1)
          | (go_at_call 129; refine (unhide hA _ (unhide R1)).mono ?_; rintro e w2 ⟨er, he, rfl, hb2⟩
             have KK := (unhide K1).but hb2 (by have := unhide hg1; have := unhide hg2; simp; omega)
             have BB := (unhide B1).trans hb2
             have y0 := KK.lt
             have q0 := KK.cell 0; have q1 := KK.cell 1; have q2 := KK.cell 2
             have f0 := KK.frozen 0; have f1 := KK.frozen 1; have f2 := KK.frozen 2
             simp at q0 q1 q2
             clear hb2)
          | fail)
        exact ret_tk rfl w.heap.size (.int .u8 0) (.int .i64 0) (.int .i64 0) (.int .i64 er) rfl rfl KK.set3 rfl ⟨.inr ⟨unhide ha, er, he, rfl⟩, BB.set3 (Nat.le_refl _) _ _ _⟩
      | some x =>
        obtain ⟨m, r2⟩ := x
        rw [h1] at ha
        simp only [] at ha
        cases h2 : treeR t 272 8 1 r2 with
        | none =>
          have hA := fun (W : World) (k : Rd1 base g gc cc gt ct W r1 t) => readAgain_none base g gc cc gt ct r1 t W k ht hl hcl2 m r2 h1 h2
          rw [h2] at ha
          replace hN := hide hN; replace hA := hide hA; replace ha := hide ha; replace hg1 := hide hg1; replace hg2 := hide hg2; replace ho := hide ho; replace hu := hide hu
          clear hcl hcl2 h1 h2
          go_enter Tryz.func109, Tryz.ntmps109
          go_wp2_with (first
            | (go_at_call 128; refine (unhide hN _ ((unhide hW).alloc _)).mono ?_; rintro e w1 ⟨rfl, R1, hb1⟩
               obtain ⟨K1, B1⟩ := but_new hb1 (unhide hg1) (unhide hg2) rfl (Blk.new (cs := #[.int .u8 0, .int .i64 0, .int .i64 0]) rfl)
               replace R1 := hide (Rd1.mk R1 (unhide ho) (unhide hu)); replace K1 := hide K1; replace B1 := hide B1
               clear hb1)
            | (go_at_call 129; refine (unhide hA _ (unhide R1)).mono ?_; rintro e w2 ⟨er, he, rfl, hb2⟩
               have KK := (unhide K1).but hb2 (by have := unhide hg1; have := unhide hg2; simp; omega)
               have BB := (unhide B1).trans hb2
               have y0 := KK.lt
               have q0 := KK.cell 0; have q1 := KK.cell 1; have q2 := KK.cell 2
               have f0 := KK.frozen 0; have f1 := KK.frozen 1; have f2 := KK.frozen 2
               simp at q0 q1 q2
               clear hb2)
            | fail)
          exact ret_tk rfl w.heap.size (.int .u8 0) (.int .i64 0) (.int .i64 0) (.int .i64 er) rfl rfl KK.set3 rfl ⟨.inr ⟨unhide ha, er, he, rfl⟩, BB.set3 (Nat.le_refl _) _ _ _⟩
        | some x =>
          obtain ⟨q, r3⟩ := x
          have hA := fun (W : World) (k : Rd1 base g gc cc gt ct W r1 t) => readAgain_some base g gc cc gt ct r1 t W k ht hl hcl2 m r2 h1 q r3 h2
          rw [h2] at ha
          simp only [] at ha
          generalize (m : Int) - 16 + 3 = L at *
          generalize (q : Int) - 256 + 1 = D at *
          replace hN := hide hN; replace hA := hide hA; replace ha := hide ha; replace hg1 := hide hg1; replace hg2 := hide hg2; replace ho := hide ho; replace hu := hide hu
          clear hcl hcl2 h1 h2
          go_enter Tryz.func109, Tryz.ntmps109
          go_wp2_with (first
            | (go_at_call 128; refine (unhide hN _ ((unhide hW).alloc _)).mono ?_; rintro e w1 ⟨rfl, R1, hb1⟩
               obtain ⟨K1, B1⟩ := but_new hb1 (unhide hg1) (unhide hg2) rfl (Blk.new (cs := #[.int .u8 0, .int .i64 0, .int .i64 0]) rfl)
               replace R1 := hide (Rd1.mk R1 (unhide ho) (unhide hu)); replace K1 := hide K1; replace B1 := hide B1
               clear hb1)
            | (go_at_call 129; refine (unhide hA _ (unhide R1)).mono ?_; rintro e w2 ⟨rfl, R2, hb2⟩
               have KK := (unhide K1).but hb2 (by have := unhide hg1; have := unhide hg2; simp; omega)
               have BB := (unhide B1).trans hb2
               have y0 := KK.lt
               have q0 := KK.cell 0; have q1 := KK.cell 1; have q2 := KK.cell 2
               have f0 := KK.frozen 0; have f1 := KK.frozen 1; have f2 := KK.frozen 2
               simp at q0 q1 q2
               clear hb2)
            | fail)
          exact ret_tk rfl w.heap.size (.int .u8 0) (.int .i64 L) (.int .i64 D) (.int .i64 0) rfl rfl KK.set3 rfl ⟨.inl ⟨⟨0, L, D⟩, r3, unhide ha, rfl, R2.set3 KK _ _ _⟩, BB.set3 (Nat.le_refl _) _ _ _⟩
    | false =>
      replace hli := hli rfl rfl
      clear ha
      cases h1 : treeR t 0 8 1 r1 with
      | none =>
        have hA := fun (W : World) (k : Rd1 base g gc cc gt ct W r1 t) => readNum_none base g gc cc gt ct 8 0 r1 t h1 W k ht hl (by omega) (by omega)
        rw [h1] at hli
        have ha := hli
        clear hli
        replace hN := hide hN; replace hA := hide hA; replace ha := hide ha; replace hg1 := hide hg1; replace hg2 := hide hg2; replace ho := hide ho; replace hu := hide hu
        clear hcl hcl2 h1
        go_enter Tryz.func109, Tryz.ntmps109
        go_wp2_with (first
          | (go_at_call 128; refine (unhide hN _ ((unhide hW).alloc _)).mono ?_; rintro e w1 ⟨rfl, R1, hb1⟩
             obtain ⟨K1, B1⟩ := but_new hb1 (unhide hg1) (unhide hg2) rfl (Blk.new (cs := #[.int .u8 0, .int .i64 0, .int .i64 0]) rfl)
             replace R1 := hide (Rd1.mk R1 (unhide ho) (unhide hu)); replace K1 := hide K1; replace B1 := hide B1
             clear hb1)
          | (go_at_call 130; refine (unhide hA _ (unhide R1)).mono ?_; rintro e w2 ⟨er, he, rfl, hb2⟩
             have KK := (unhide K1).but hb2 (by have := unhide hg1; have := unhide hg2; simp; omega)
             have BB := (unhide B1).trans hb2
             have y0 := KK.lt
             have q0 := KK.cell 0; have q1 := KK.cell 1; have q2 := KK.cell 2
             have f0 := KK.frozen 0; have f1 := KK.frozen 1; have f2 := KK.frozen 2
             simp at q0 q1 q2
             clear hb2)
          | fail)
        exact ret_tk rfl w.heap.size (.int .u8 0) (.int .i64 0) (.int .i64 0) (.int .i64 er) rfl rfl KK.set3 rfl ⟨.inr ⟨unhide ha, er, he, rfl⟩, BB.set3 (Nat.le_refl _) _ _ _⟩
      | some x =>
        obtain ⟨m, r2⟩ := x
        have hA := fun (W : World) (k : Rd1 base g gc cc gt ct W r1 t) => readNum_some base g gc cc gt ct 8 0 r1 t m r2 h1 W k ht hl (by omega) (by omega)
        have hge := treeR_ge 8 1 h1
        simp at hge
        have hb8 : (m : Int) - 2 ^ ((8 : Nat)) = ((m - 256 : Nat) : Int) := by omega
        rw [hb8] at hA
        have hm8 : m - 256 < 256 := by omega
        rw [h1] at hli
        simp only [] at hli
        have ha := hli
        have hx : ((m - 256 : Nat) : Int) = M.n8 (UInt8.ofNat (m - 256)) := by unfold M.n8; simp; omega
        generalize m - 256 = V at *
        clear hb8 hge hli
        replace hN := hide hN; replace hA := hide hA; replace hx := hide hx; replace ha := hide ha; replace hg1 := hide hg1; replace hg2 := hide hg2; replace ho := hide ho; replace hu := hide hu
        clear hcl hcl2 h1
        go_enter Tryz.func109, Tryz.ntmps109
        go_wp2_with (first
          | (go_at_call 128; refine (unhide hN _ ((unhide hW).alloc _)).mono ?_; rintro e w1 ⟨rfl, R1, hb1⟩
             obtain ⟨K1, B1⟩ := but_new hb1 (unhide hg1) (unhide hg2) rfl (Blk.new (cs := #[.int .u8 0, .int .i64 0, .int .i64 0]) rfl)
             replace R1 := hide (Rd1.mk R1 (unhide ho) (unhide hu)); replace K1 := hide K1; replace B1 := hide B1
             clear hb1)
          | (go_at_call 130; refine (unhide hA _ (unhide R1)).mono ?_; rintro e w2 ⟨rfl, R2, hb2⟩
             have KK := (unhide K1).but hb2 (by have := unhide hg1; have := unhide hg2; simp; omega)
             have BB := (unhide B1).trans hb2
             have y0 := KK.lt
             have q0 := KK.cell 0; have q1 := KK.cell 1; have q2 := KK.cell 2
             have f0 := KK.frozen 0; have f1 := KK.frozen 1; have f2 := KK.frozen 2
             simp at q0 q1 q2
             clear hb2)
          | fail)
        exact ret_tk rfl w.heap.size (.int .u8 (V : Int)) (.int .i64 0) (.int .i64 0) (.int .i64 0) rfl rfl KK.set3 rfl ⟨.inl ⟨⟨UInt8.ofNat V, 0, 0⟩, r2, unhide ha, by rw [unhide hx], R2.set3 KK _ _ _⟩, BB.set3 (Nat.le_refl _) _ _ _⟩
  · have h0' : (er == 0) = false := by simpa using h0
    have ha := hs h0
    replace hW := hide hW
    clear hs hli
    replace hN := hide hN;  replace ha := hide ha; replace hg1 := hide hg1; replace hg2 := hide hg2; replace ho := hide ho; replace hu := hide hu
    clear hcl hcl2 
    go_enter Tryz.func109, Tryz.ntmps109
    go_wp2_with (first
      | (go_at_call 128; refine (unhide hN _ ((unhide hW).alloc _)).mono ?_; rintro e w1 ⟨rfl, R1, hb1⟩
         obtain ⟨K1, B1⟩ := but_new hb1 (unhide hg1) (unhide hg2) rfl (Blk.new (cs := #[.int .u8 0, .int .i64 0, .int .i64 0]) rfl)
         have y0 := K1.lt; have q0 := K1.cell 0; have q1 := K1.cell 1; have q2 := K1.cell 2; have f0 := K1.frozen 0; have f1 := K1.frozen 1; have f2 := K1.frozen 2; simp at q0 q1 q2
         clear hb1)
      | fail)
    exact ret_tk rfl w.heap.size (.int .u8 0) (.int .i64 0) (.int .i64 0) (.int .i64 er) rfl rfl K1.set3 rfl ⟨.inr ⟨unhide ha, er, h0', rfl⟩, B1.set3 (Nat.le_refl _) _ _ _⟩
include hW ht hl hcl in
theorem readTok_some (x : Tok) (r' : Rdr) (h : tokR t r = some (x, r')) :
    Calls Tryz.prog 109 #[.pointer (some ⟨g, 0, none⟩)] w fun e w' => e = .returned (.tuple #[tkV x, .int .i64 0]) ∧ Rd1 base g gc cc gt ct w' r' t ∧ But [g, gc] w w' :=
  (readTok_any base g gc cc gt ct r t w hW ht hl hcl).mono fun e w' ⟨ho, hb⟩ => by
    rcases ho with ⟨q', r2, h1, h3, h4⟩ | ⟨h1, _⟩
    · rw [h] at h1
      injection h1 with h1
      injection h1 with e1 e2
      subst e1 e2
      exact ⟨h3, h4, hb⟩
    · rw [h] at h1; cases h1
include hW ht hl hcl in
theorem readTok_none (h : tokR t r = none) :
    Calls Tryz.prog 109 #[.pointer (some ⟨g, 0, none⟩)] w fun e w' => ∃ er : Int, (er == 0) = false ∧ e = .returned (.tuple #[tkV ⟨0, 0, 0⟩, .int .i64 er]) ∧ But [g, gc] w w' :=
  (readTok_any base g gc cc gt ct r t w hW ht hl hcl).mono fun e w' ⟨ho, hb⟩ => by
    rcases ho with ⟨q', r', h1, _⟩ | ⟨_, er, h3, h4⟩
    · rw [h] at h1; cases h1
    · exact ⟨er, h3, h4, hb⟩
end
end Go.Proofs.YthkccpemgmpadaaGreatDoor.P

namespace Go.Proofs.YthkccpemgmpadaaGreatDoor.P
set_option maxRecDepth 100000
open Go.RowKit
theorem Rdg.grownN {base g gc cc gt ct : Nat} {w w' : World} {r : Rdr} {t : List Int} {base' size n : Nat} {e : TypeId} {v : Value} {xs : List Value} (h : Rdg base g gc cc gt ct w r t) (ho : w.ownsRow base' e size v n xs) (hg : w.grownBy w' v.ownBlock) (h1 : e ≠ 157) (h2 : 3 ≠ e) (h3 : 5 ≠ e) : Rdg base g gc cc gt ct w' r t :=
  ⟨h.blk.grown hg (own_ne ho h.blk h1), own_grown h.c hg (own_own h.c ho h2), own_grown h.text hg (own_own h.text ho h3)⟩
theorem Rd1.grownN {base g gc cc gt ct : Nat} {w w' : World} {r : Rdr} {t : List Int} {base' size n : Nat} {v : Value} {xs : List Value} (h : Rd1 base g gc cc gt ct w r t) (ho : w.ownsRow base' 79 size v n xs) (hg : w.grownBy w' v.ownBlock) : Rd1 base g gc cc gt ct w' r t :=
  ⟨h.rd.grownN ho hg (by decide) (by decide) (by decide), h.ok, h.used⟩
theorem Rd1.not40 {base g gc cc gt ct : Nat} {w : World} {r : Rdr} {t : List Int} (h : Rd1 base g gc cc gt ct w r t) (hc : 0 < r.c.length) : ∀ k ∈ [g, gc], ∀ cs, ¬ Blk w k 79 cs := by
  intro k hk cs hB
  simp only [List.mem_cons, List.not_mem_nil, or_false] at hk
  rcases hk with rfl | rfl
  · exact (h.rd.blk.ne_ hB (by decide)) rfl
  · obtain ⟨g', cur, e, _, hb⟩ := own_pos h.rd.c hc
    injection e with e; injection e with e
    subst e
    exact (Blk.ne_ hb hB (by decide)) rfl
theorem Rdg.base {base g gc cc gt ct : Nat} {w : World} {r : Rdr} {t : List Int} (h : Rdg base g gc cc gt ct w r t) (hc : 0 < r.c.length) : base ≤ gc := by
  obtain ⟨g', cur, e, hb, _⟩ := own_pos h.c hc
  injection e with e; injection e with e
  subst e
  exact hb
theorem startR_c {t : List Int} : (startR 528 t).c.length = 528 := by simp [startR]
theorem treeR_c {t : List Int} {c : Int} (k m : Nat) {r : Rdr} {x : Nat × Rdr} (h : treeR t c k m r = some x) : x.2.c.length = r.c.length := by
  induction k generalizing m r with
  | zero => rw [treeR] at h; injection h with h; subst h; rfl
  | succ k ih =>
    rw [treeR] at h
    split at h
    · rw [ih _ h, nextR_c]
    · cases h
theorem tokR_c {t : List Int} {r : Rdr} {x : Tok × Rdr} (h : tokR t r = some x) : x.2.c.length = r.c.length := by
  unfold tokR at h
  split at h
  · split at h
    · split at h
      · cases h
      · rename_i h1
        split at h
        · cases h
        · rename_i h2
          injection h with h
          subst h
          have e1 := treeR_c _ _ h1
          have e2 := treeR_c _ _ h2
          simp only [] at e1 e2 ⊢
          rw [e2, e1, nextR_c]
    · split at h
      · cases h
      · rename_i h1
        injection h with h
        subst h
        have e1 := treeR_c _ _ h1
        simp only [] at e1 ⊢
        rw [e1, nextR_c]
  · cases h
theorem toksR_step {t : List Int} {n : Int} {f : Nat} {told : Int} {r : Rdr} {acc : List Tok} (h : told < n) {x : Tok} {r' : Rdr} (hx : tokR t r = some (x, r')) : toksR t n (f + 1) told r acc = toksR t n f (told + sizeT x) r' (acc ++ [x]) := by
  rw [toksR, if_pos h, hx]
theorem toksR_none {t : List Int} {n : Int} {f : Nat} {told : Int} {r : Rdr} {acc : List Tok} (h : told < n) (hx : tokR t r = none) : toksR t n (f + 1) told r acc = none := by
  rw [toksR, if_pos h, hx]
theorem toksR_end {t : List Int} {n : Int} {f : Nat} {told : Int} {r : Rdr} {acc : List Tok} (h : ¬ told < n) : toksR t n f told r acc = some (acc, r) := by
  cases f with
  | zero => rfl
  | succ f => rw [toksR, if_neg h]
theorem size_max {x : Tok} (h : okT x = true) : (if x.len < 1 then 1 else x.len) = sizeT x := by
  unfold sizeT
  by_cases h0 : x.len = 0
  · rw [if_pos h0, if_pos (by omega)]
  · have := okT_len h h0
    rw [if_neg h0, if_neg (by omega)]
theorem nat_beq (a b : Nat) : ((a : Int) == (b : Int)) = decide (a = b) := by rw [Bool.eq_iff_iff]; simp; omega
set_option maxHeartbeats 1000000 in
theorem readAll_bad (lo : Nat) (v : Value) (t : List Int) (n : Int) (w : World) (hv : Os lo w.heap.size w v t) (ht : okB t) (h : startE 528 t ≠ 0) :
    Calls Tryz.prog 74 #[v, .int .i64 n] w fun e w' => e = .returned (.tuple #[.slice none 0 0, .bool false]) ∧ Below w.heap.size w w' := by
  have hN := NewReader_bad 528 lo v t w hv ht h
  have h' : (startE 528 t == 0) = false := by simpa using h
  generalize startE 528 t = er at *
  replace hN := hide hN
  clear h hv
  go_enter Tryz.func74, Tryz.ntmps74
  go_wp2_with (first
    | (go_at_call 108; refine (unhide hN).mono ?_; rintro e w1 ⟨rfl, hb1⟩)
    | fail)
  go_ret2
  exact ⟨rfl, hb1⟩
set_option maxHeartbeats 2000000 in
theorem readAll_good (lo : Nat) (v : Value) (t : List Int) (n : Int) (w : World) (hv : Os lo w.heap.size w v t) (ht : okB t) (hl : t.length ≤ 1000000) (h : startE 528 t = 0) (hn0 : 0 ≤ n) (hn : n ≤ 65536) :
    Calls Tryz.prog 74 #[v, .int .i64 n] w fun e w' =>
      ((∃ A c l r', toksR t n n.toNat 0 (startR 528 t) [] = some (l, r') ∧ e = .returned (.tuple #[.slice A l.length c, .bool (decide (r'.used = t.length))]) ∧ w'.ownsRow w.heap.size 79 3 (.slice A l.length c) l.length (l.flatMap M.tkv)) ∨
       (toksR t n n.toNat 0 (startR 528 t) [] = none ∧ e = .returned (.tuple #[.slice none 0 0, .bool false]))) ∧ Below w.heap.size w w' := by
  obtain ⟨i0, hi0, iz0, iz1, iz2⟩ := info_parts M.info25
  have hN := NewReader_good 528 (by omega) lo v t w hv ht hl h
  have hok := okR_start (n := 528) (by omega) h ht
  have hus : (startR 528 t).used ≤ t.length := (startE_iff.1 h).2.1
  have hlc := startR_c (t := t)
  obtain ⟨A, c, rfl, x1, x2, _⟩ := hv.open
  have hRs := fun (g gc gt ct : Nat) (r : Rdr) (W : World) (k : Rd1 w.heap.size g gc 528 gt ct W r t) (hc : r.c.length = 528) (x : Tok) (r' : Rdr) (hx : tokR t r = some (x, r')) => readTok_some w.heap.size g gc 528 gt ct r t W k ht hl (by omega) x r' hx
  have hRn := fun (g gc gt ct : Nat) (r : Rdr) (W : World) (k : Rd1 w.heap.size g gc 528 gt ct W r t) (hc : r.c.length = 528) (hx : tokR t r = none) => readTok_none w.heap.size g gc 528 gt ct r t W k ht hl (by omega) hx
  generalize startR 528 t = r0 at *
  replace hN := hide hN; replace hRs := hide hRs; replace hRn := hide hRn; replace hok := hide hok; replace hus := hide hus; replace hlc := hide hlc
  clear hv h
  go_enter Tryz.func74, Tryz.ntmps74
  go_wp2_with (first
    | (go_at_call 108; refine (unhide hN).mono ?_; rintro e w1 ⟨g, gc, gt, ct, rfl, R1, hgb, hb1⟩)
    | fail)
  have hR1 := hide (Rd1.mk R1 (unhide hok) (unhide hus))
  replace hgb := hide hgb; replace hb1 := hide hb1
  clear R1
  go_loopw [8, 9] (fun s8 s9 wr => ∃ (f k c' : Nat) (told : Int) (r1 : Rdr) (acc : List Tok) (A' : Option Addr), s8 = .slice A' k c' ∧ s9 = .int .i64 told ∧ 0 ≤ told ∧ told ≤ n + 18 ∧ n ≤ told + f ∧ (k : Int) ≤ told ∧ Hid (k = acc.length) ∧ Hid (toksR t n n.toNat 0 r0 [] = toksR t n f told r1 acc) ∧ Hid (Rd1 w.heap.size g gc 528 gt ct wr r1 t) ∧ Hid (r1.c.length = 528) ∧ Hid (wr.ownsRow w.heap.size 79 3 (.slice A' k c') k (acc.flatMap M.tkv)) ∧ Hid (Below w.heap.size w wr)) (fun _ s9 _ => 65536 + 18 - (intOf s9).toNat)
  case atStart => exact ⟨n.toNat, 0, 0, 0, r0, [], none, rfl, rfl, by omega, by omega, by omega, by omega, hide rfl, hide rfl, hR1, hlc, hide (World.ownsRow_nil _ _ _ _), hb1⟩
  case round =>
    obtain ⟨f, k, c', told, r1, acc, A', rfl, rfl, ht0, ht1, hf, hk, hkl, hq, hR, hc, ho, hB⟩ := hrel
    by_cases hlt : told < n
    · obtain ⟨f', rfl⟩ : ∃ f', f = f' + 1 := ⟨f - 1, by omega⟩
      cases hx : tokR t r1 with
      | none =>
        have hA := unhide hRn g gc gt ct r1 wr (unhide hR) (unhide hc) hx
        have hq2 := (unhide hq).trans (toksR_none hlt hx)
        have hgs : ∀ k ∈ [g, gc], w.heap.size ≤ k := by
          have := (unhide hR).rd.base (by rw [unhide hc]; omega)
          have := unhide hgb
          simp; omega
        replace hA := hide hA; replace hq2 := hide hq2; replace hgs := hide hgs
        clear hq hx
        go_wp2_with (first
          | (go_at_call 109; refine (unhide hA).mono ?_; rintro e w2 ⟨er, he, rfl, hb2⟩)
          | fail)
        go_ret2
        exact ⟨.inr ⟨unhide hq2, rfl⟩, ((unhide hB).trans (hb2.below (unhide hgs) (unhide hB).size)).alloc (Nat.le_trans (unhide hB).size hb2.size) _⟩
      | some x =>
        obtain ⟨x, r2⟩ := x
        have hA := unhide hRs g gc gt ct r1 wr (unhide hR) (unhide hc) x r2 hx
        have hq2 := (unhide hq).trans (toksR_step hlt hx)
        have hokx := tokR_ok hx
        have hcx := (tokR_c hx).trans (unhide hc)
        have hsz := okT_size hokx
        have hmx := size_max hokx
        simp only [] at hokx hcx hsz hmx
        have hgs : ∀ k ∈ [g, gc], w.heap.size ≤ k := by
          have := (unhide hR).rd.base (by rw [unhide hc]; omega)
          have := unhide hgb
          simp; omega
        have hnot := (unhide hR).not40 (by rw [unhide hc]; omega)
        have hto := M.tkv_one x
        have hfl := M.flat_snoc acc x
        have u1 : k + 1 ≤ maxLen := by simp only [maxLen]; omega
        have u2 : (k + 1) * 24 ≤ 140737488355328 := by omega
        have hkk : k + 1 = (acc ++ [x]).length := by rw [List.length_append, unhide hkl]; rfl
        obtain ⟨S, hS⟩ : ∃ S, S = sizeT x := ⟨_, rfl⟩
        rw [← hS] at hq2 hsz hmx
        obtain ⟨xl, xn, xd⟩ := x
        unfold tkV at hA
        simp only [] at hA hmx
        replace hA := hide hA; replace hq2 := hide hq2; replace hgs := hide hgs; replace hnot := hide hnot; replace hto := hide hto; replace hfl := hide hfl; replace u1 := hide u1; replace u2 := hide u2; replace hcx := hide hcx; replace hkk := hide hkk; replace hkl := hide hkl; replace hc := hide hc
        clear hq hx hS hokx hc
        go_wp2_with (first
          | (go_at_call 109; refine (unhide hA).mono ?_; rintro e w2 ⟨rfl, R2, hb2⟩
             have o2 := own_but (unhide ho) hb2 (unhide hnot)
             have B2 := (unhide hB).trans (hb2.below (unhide hgs) (unhide hB).size)
             replace R2 := hide R2; replace o2 := hide o2; replace B2 := hide B2
             clear hb2)
          | (at_builtin
             refine wpList_app _ rfl (.tmp 29) (.tmp 31) 77 rfl w.heap.size 79 i0 _ 3 24 Tryz.underlying77 hi0 iz0 iz1 iz2 rfl (Nat.succ_pos _) _ k (acc.flatMap M.tkv) rfl (((unhide o2).alloc _).alloc _) (some ⟨w2.heap.size + 1, 0, none⟩) 1 1 (M.tkv ⟨xl, xn, xd⟩) rfl rfl (M.tk_src (t := ⟨xl, xn, xd⟩) (Blk.new (by simp))) (unhide hto) (unhide u1) (unhide u2) (by have := (unhide B2).size; simp; omega) ?_
             intro v3 w3 o3 hg3
             obtain ⟨A3, c3, rfl⟩ := ownsRow_form o3
             rw [unhide hfl] at o3
             have N3 : Blk w3 w2.heap.size 79 #[.int .u8 (M.n8 xl), .int .i64 xn, .int .i64 xd] := Blk.grown ((Blk.new rfl).alloc _) hg3 (M.vb_ne (own_vbelow (unhide o2)) (Nat.le_refl _))
             have q1 := N3.cell 1
             simp at q1
             have y1 := N3.lt
             have R3 := (((unhide R2).alloc _).alloc _).grownN (((unhide o2).alloc _).alloc _) hg3
             have B3 := ((((unhide B2).alloc (unhide B2).size _).alloc (by have := (unhide B2).size; simp; omega) _)).grown hg3 (by have := (unhide B2).size; simp; omega) (own_base (unhide o2))
             replace R3 := hide R3; replace B3 := hide B3; replace o3 := hide o3; replace N3 := hide N3)
          | fail)
        go_roundw
        case rel => exact ⟨f', k + 1, c3, told + S, r2, acc ++ [⟨xl, xn, xd⟩], A3, rfl, by go_num, by omega, by omega, by omega, by omega, hkk, hq2, R3, hcx, o3, B3⟩
        case measure => simp [intOf]; omega
    · have hq2 := (unhide hq).trans (toksR_end hlt)
      have hz := (unhide hR).rd.blk.cell 3
      simp at hz
      have hU := Used_any g r1.used wr hz
      have hB0 := hB
      replace hU := hide hU; replace hq2 := hide hq2
      clear hq hz
      go_wp2_with (first
        | (go_at_call 110; refine (unhide hU).mono ?_; rintro e w2 ⟨rfl, rfl⟩)
        | fail)
      go_ret2
      have hk2 := unhide hkl
      subst hk2
      exact ⟨.inl ⟨_, _, acc, r1, unhide hq2, by rw [nat_beq]; rfl, unhide ho⟩, unhide hB⟩
theorem readAll_some (lo : Nat) (v : Value) (t : List Int) (n : Int) (l : List Tok) (r' : Rdr) (hx : toksR t n n.toNat 0 (startR 528 t) [] = some (l, r')) (w : World) (hv : Os lo w.heap.size w v t) (ht : okB t) (hl : t.length ≤ 1000000) (h : startE 528 t = 0) (hn0 : 0 ≤ n) (hn : n ≤ 65536) :
    Calls Tryz.prog 74 #[v, .int .i64 n] w fun e w' => ∃ A c, e = .returned (.tuple #[.slice A l.length c, .bool (decide (r'.used = t.length))]) ∧ w'.ownsRow w.heap.size 79 3 (.slice A l.length c) l.length (l.flatMap M.tkv) ∧ Below w.heap.size w w' :=
  (readAll_good lo v t n w hv ht hl h hn0 hn).mono fun e w' ⟨ho, hb⟩ => by
    rcases ho with ⟨A, c, l', r2, h1, h2, h3⟩ | ⟨h1, _⟩
    · rw [hx] at h1
      injection h1 with h1
      injection h1 with e1 e2
      subst e1 e2
      exact ⟨A, c, h2, h3, hb⟩
    · rw [hx] at h1; cases h1
theorem readAll_none (lo : Nat) (v : Value) (t : List Int) (n : Int) (hx : toksR t n n.toNat 0 (startR 528 t) [] = none) (w : World) (hv : Os lo w.heap.size w v t) (ht : okB t) (hl : t.length ≤ 1000000) (h : startE 528 t = 0) (hn0 : 0 ≤ n) (hn : n ≤ 65536) :
    Calls Tryz.prog 74 #[v, .int .i64 n] w fun e w' => e = .returned (.tuple #[.slice none 0 0, .bool false]) ∧ Below w.heap.size w w' :=
  (readAll_good lo v t n w hv ht hl h hn0 hn).mono fun e w' ⟨ho, hb⟩ => by
    rcases ho with ⟨A, c, l', r2, h1, h2, h3⟩ | ⟨_, h2⟩
    · rw [hx] at h1; cases h1
    · exact ⟨h2, hb⟩
end Go.Proofs.YthkccpemgmpadaaGreatDoor.P

namespace Go.Proofs.YthkccpemgmpadaaGreatDoor.P
set_option maxRecDepth 100000
open Go.RowKit
theorem os_drop {lo hi : Nat} {w : World} {b off c : Nat} {t : List Int} (h : Os lo hi w (.slice (some ⟨b, off, none⟩) t.length c) t) (k : Nat) (hk : k < t.length) :
    Os lo hi w (.slice (some ⟨b, off + k, none⟩) (t.length - k) (c - k)) (t.drop k) := by
  obtain ⟨A, c', e, h1, h2, h3⟩ := h
  injection e with e1 e2 e3
  subst e3
  refine ⟨some ⟨b, off + k, none⟩, c - k, by rw [List.length_drop], by rw [List.length_drop]; omega, by omega, fun h0 => ?_⟩
  obtain ⟨b', off', e, g1, g2, g3⟩ := h3 (by omega)
  rw [← e1] at e
  injection e with e; injection e with e1 e2; subst e1 e2
  refine ⟨b, off + k, rfl, g1, g2, fun i hi' j u hu => ?_⟩
  rw [List.length_drop] at hi'
  have hg : (t.drop k)[i]'(by rw [List.length_drop]; exact hi') = t[k + i]'(by omega) := by rw [List.getElem_drop]
  rw [hg] at hu
  have := g3 (k + i) (by omega) j u hu
  rw [show off + k + i * 1 + j = off + (k + i) * 1 + j by omega]
  exact this
theorem textR_is {l : List Tok} {n : Int} (hn0 : 0 ≤ n) (hn : n ≤ 65536) : ∃ er, M.textR l n = (if okL 0 l && decide (sumT l ≤ n) then textF [] l else [], er) ∧ (er = 0 ↔ (okL 0 l && decide (sumT l ≤ n)) = true) := by
  unfold M.textR
  by_cases ho : M.okB l = true
  · obtain ⟨h1, h2⟩ := M.okB_iff.1 ho
    rw [if_neg (by rw [ho]; simp), if_neg (by omega)]
    by_cases hs : sumT l ≤ n
    · exact ⟨0, by rw [if_pos ⟨hs, by omega⟩, if_pos (by simp [h2, hs])], by simp [h2, hs]⟩
    · exact ⟨3, by rw [if_neg (fun h => hs h.1), if_neg (by simp [hs])], by simp [hs]⟩
  · have hf : (okL 0 l && decide (sumT l ≤ n)) = false := by
      cases hh : okL 0 l && decide (sumT l ≤ n) with
      | false => rfl
      | true =>
        simp at hh
        have := (okL_sum hh.1).1
        exact absurd (M.okB_iff.2 ⟨by omega, hh.1⟩) ho
    have ho' : M.okB l = false := by simpa using ho
    refine ⟨1, by rw [if_pos ho', hf]; rfl, by rw [hf]; simp⟩
def tailR (d : List Int) (N most : Int) : List UInt8 × Int :=
  if most < N then ([], 3)
  else if startE 528 d ≠ 0 then ([], 2)
  else match toksR d N N.toNat 0 (startR 528 d) [] with
    | none => ([], 2)
    | some (l, r) => if okL 0 l && decide (sumT l ≤ N) && decide (r.used = d.length) then (textF [] l, 0) else ([], 2)
theorem unpackR_tail {t : List Int} {most : Int} (h0 : ¬ most < 0) (h9 : (longR t).2 = 0) : unpackR t most = tailR (t.drop 4) (longN t) most := by
  unfold unpackR tailR
  rw [if_neg h0, if_neg (by rw [h9]; simp)]
  cases toksR (t.drop 4) (longN t) (longN t).toNat 0 (startR 528 (t.drop 4)) [] <;> rfl
theorem tailR_long {d : List Int} {N most : Int} (h : most < N) : tailR d N most = ([], 3) := by unfold tailR; rw [if_pos h]
theorem tailR_start {d : List Int} {N most : Int} (h : ¬ most < N) (h1 : startE 528 d ≠ 0) : tailR d N most = ([], 2) := by unfold tailR; rw [if_neg h, if_pos h1]
theorem tailR_none {d : List Int} {N most : Int} (h : ¬ most < N) (h1 : startE 528 d = 0) (h2 : toksR d N N.toNat 0 (startR 528 d) [] = none) : tailR d N most = ([], 2) := by unfold tailR; rw [if_neg h, if_neg (by rw [h1]; simp), h2]
theorem tailR_some {d : List Int} {N most : Int} (h : ¬ most < N) (h1 : startE 528 d = 0) {l : List Tok} {r : Rdr} (h2 : toksR d N N.toNat 0 (startR 528 d) [] = some (l, r)) : tailR d N most = if okL 0 l && decide (sumT l ≤ N) && decide (r.used = d.length) then (textF [] l, 0) else ([], 2) := by unfold tailR; rw [if_neg h, if_neg (by rw [h1]; simp), h2]
section
variable (lo : Nat) (v : Value) (t : List Int) (most : Int) (w : World) (hv : Os lo w.heap.size w v t) (ht : okB t) (hl : t.length ≤ 1000000)
def UnpackOut (t : List Int) (most : Int) (w : World) (e : Ending) (w' : World) : Prop :=
  ∃ A n c, e = .returned (.tuple #[.slice A n c, .int .i64 (unpackR t most).2]) ∧ w'.ownsRow w.heap.size 5 1 (.slice A n c) n ((unpackR t most).1.map M.u8v) ∧ Below w.heap.size w w'
theorem UnpackOut.bad {t : List Int} {most : Int} {w w' : World} {er : Int} {e : Ending} (h : unpackR t most = ([], er)) (he : e = .returned (.tuple #[.slice none 0 0, .int .i64 er])) (hb : Below w.heap.size w w') : UnpackOut t most w e w' := by
  unfold UnpackOut
  rw [h]
  exact ⟨none, 0, 0, he, World.ownsRow_nil _ _ _ _, hb⟩
set_option maxHeartbeats 1000000 in
include hv ht hl in
theorem Unpack_any : Calls Tryz.prog 46 #[v, .int .i64 most] w (UnpackOut t most w) := by
  have hL := fun (W : World) (h : Os lo W.heap.size W v t) => Long_any lo v t W h ht
  by_cases h0 : most < 0
  · have hr : unpackR t most = ([], 1) := by unfold unpackR; rw [if_pos h0]
    replace hr := hide hr
    clear hL hv
    go_enter Tryz.func46, Tryz.ntmps46
    go_wp2_with fail
    go_ret2
    exact UnpackOut.bad (unhide hr) rfl (Below.refl _ _)
  by_cases h9 : (longR t).2 = 0
  · have hlen : ¬ (t.length < 9 ∨ 65536 < longN t) := fun h => by
      unfold longR at h9; rw [if_pos h] at h9; exact absurd h9 (by simp)
    have hL9 : 9 ≤ t.length := by omega
    have hN1 : longN t ≤ 65536 := by omega
    have hN0 : 0 ≤ longN t := by
      rw [longN_get (by omega)]
      have a0 := ht t[0] (List.getElem_mem _); have a1 := ht t[1] (List.getElem_mem _); have a2 := ht t[2] (List.getElem_mem _); have a3 := ht t[3] (List.getElem_mem _)
      omega
    have e2 : longR t = (longN t, 0) := by unfold longR; rw [if_neg hlen]
    rw [e2] at hL
    simp only [] at hL
    have hU := unpackR_tail h0 h9
    obtain ⟨A, c, rfl, x1, x2, x3⟩ := hv.open
    obtain ⟨b, off, rfl, xx⟩ := x3 0 (by omega)
    clear xx
    have hD := fun (W : World) (h : Os lo W.heap.size W (.slice (some ⟨b, off, none⟩) t.length c) t) => os_drop h 4 (by omega)
    have hsl := fun W => slice_l23 (some ⟨b, off, none⟩) t.length c 4 (by omega) W
    unfold sliced at hsl
    rw [if_neg (by omega)] at hsl
    have htd : okB (t.drop 4) := fun x hx => ht x (List.mem_of_mem_drop hx)
    have hdl : (t.drop 4).length ≤ 1000000 := by rw [List.length_drop]; omega
    have hBad := fun (W : World) (h : Os lo W.heap.size W (.slice (some ⟨b, off + 4, none⟩) (t.length - 4) (c - 4)) (t.drop 4)) (k : startE 528 (t.drop 4) ≠ 0) => readAll_bad lo _ (t.drop 4) (longN t) W h htd k
    have hNone := fun (hx : toksR (t.drop 4) (longN t) (longN t).toNat 0 (startR 528 (t.drop 4)) [] = none) (W : World) (h : Os lo W.heap.size W (.slice (some ⟨b, off + 4, none⟩) (t.length - 4) (c - 4)) (t.drop 4)) (k : startE 528 (t.drop 4) = 0) => readAll_none lo _ (t.drop 4) (longN t) hx W h htd hdl k hN0 hN1
    have hSome := fun (l : List Tok) (r' : Rdr) (hx : toksR (t.drop 4) (longN t) (longN t).toNat 0 (startR 528 (t.drop 4)) [] = some (l, r')) (W : World) (h : Os lo W.heap.size W (.slice (some ⟨b, off + 4, none⟩) (t.length - 4) (c - 4)) (t.drop 4)) (k : startE 528 (t.drop 4) = 0) => readAll_some lo _ (t.drop 4) (longN t) l r' hx W h htd hdl k hN0 hN1
    have hT9 : (9 : Int) ≤ (t.length : Int) := by omega
    clear x3 e2 hlen h9
    generalize t.drop 4 = d at *
    generalize longN t = N at *
    clear htd hdl
    replace hL := hide hL; replace hD := hide hD; replace hv := hide hv; replace hN0 := hide hN0; replace hN1 := hide hN1
    by_cases h3 : most < N
    · rw [tailR_long h3] at hU
      replace hU := hide hU
      clear hBad hNone hSome
      go_enter Tryz.func46, Tryz.ntmps46
      go_wp2_with (first
        | (go_at_call 73; refine (unhide hL _ (unhide hv)).mono ?_; rintro e w1 ⟨rfl, hb1⟩)
        | fail)
      go_ret2
      exact UnpackOut.bad (unhide hU) rfl hb1
    by_cases hst : startE 528 d = 0
    · clear hBad
      cases hx : toksR d N N.toNat 0 (startR 528 d) [] with
      | none =>
        have hA := fun W h => hNone hx W h hst
        rw [tailR_none h3 hst hx] at hU
        replace hA := hide hA; replace hU := hide hU
        clear hSome hNone hx hst
        go_enter Tryz.func46, Tryz.ntmps46
        go_wp2_with (first
          | (go_at_call 73; refine (unhide hL _ (unhide hv)).mono ?_; rintro e w1 ⟨rfl, hb1⟩; have v1 := hide (unhide hD _ ((unhide hv).grow hb1)); replace hb1 := hide hb1)
          | (go_at_call 74; refine (unhide hA _ (unhide v1)).mono ?_; rintro e w2 ⟨rfl, hb2⟩)
          | fail)
        go_ret2
        exact UnpackOut.bad (unhide hU) rfl (bl_call (unhide hb1) hb2)
      | some x =>
        obtain ⟨l, r'⟩ := x
        have hA := fun W h => hSome l r' hx W h hst
        rw [tailR_some h3 hst hx] at hU
        obtain ⟨er, ht1, ht2⟩ := textR_is (l := l) (unhide hN0) (unhide hN1)
        have hTx := fun (v : Value) (W : World) (lo : Nat) (k : M.Tks lo W.heap.size W v l) => M.Text_any lo v l N _ er W k ht1
        by_cases hus : r'.used = d.length
        · have hd1 : decide (r'.used = d.length) = true := decide_eq_true hus
          rw [hd1] at hA hU
          rw [Bool.and_true] at hU
          clear hSome hNone hx hst
          by_cases her : er = 0
          · rw [ht2.1 her] at hTx hU
            subst her
            simp only [if_true] at hTx hU
            replace hA := hide hA; replace hU := hide hU; replace hTx := hide hTx
            clear ht1 ht2 hus hd1
            go_enter Tryz.func46, Tryz.ntmps46
            go_wp2_with (first
              | (go_at_call 73; refine (unhide hL _ (unhide hv)).mono ?_; rintro e w1 ⟨rfl, hb1⟩; have v1 := hide (unhide hD _ ((unhide hv).grow hb1)); replace hb1 := hide hb1)
              | (go_at_call 74; refine (unhide hA _ (unhide v1)).mono ?_; rintro e w2 ⟨A2, c2, rfl, o2, hb2⟩; have t2 := hide (M.Tks.own o2); clear o2; replace hb2 := hide (bl_call (unhide hb1) hb2))
              | (go_at_call 75; refine (unhide hTx _ _ _ (unhide t2)).mono ?_; rintro e w3 ⟨A3, n3, c3, rfl, o3, hb3⟩)
              | fail)
            go_ret2
            unfold UnpackOut
            rw [unhide hU]
            exact ⟨_, _, _, rfl, ownsRow_mono o3 (unhide hb2).size, bl_call (unhide hb2) hb3⟩
          · have hc : (okL 0 l && decide (sumT l ≤ N)) = false := by
              cases hh : okL 0 l && decide (sumT l ≤ N) with
              | false => rfl
              | true => exact absurd (ht2.2 hh) her
            rw [hc] at hTx hU
            have her' : (er == 0) = false := by simpa using her
            simp only [Bool.false_eq_true, if_false] at hTx hU
            replace hA := hide hA; replace hU := hide hU; replace hTx := hide hTx
            clear ht1 ht2 hus hd1 hc
            go_enter Tryz.func46, Tryz.ntmps46
            go_wp2_with (first
              | (go_at_call 73; refine (unhide hL _ (unhide hv)).mono ?_; rintro e w1 ⟨rfl, hb1⟩; have v1 := hide (unhide hD _ ((unhide hv).grow hb1)); replace hb1 := hide hb1)
              | (go_at_call 74; refine (unhide hA _ (unhide v1)).mono ?_; rintro e w2 ⟨A2, c2, rfl, o2, hb2⟩; have t2 := hide (M.Tks.own o2); clear o2; replace hb2 := hide (bl_call (unhide hb1) hb2))
              | (go_at_call 75; refine (unhide hTx _ _ _ (unhide t2)).mono ?_; rintro e w3 ⟨A3, n3, c3, rfl, o3, hb3⟩)
              | fail)
            go_ret2
            exact UnpackOut.bad (unhide hU) rfl (bl_call (unhide hb2) hb3)
        · have hd1 : decide (r'.used = d.length) = false := decide_eq_false hus
          rw [hd1] at hA hU
          rw [Bool.and_false] at hU
          simp only [Bool.false_eq_true, if_false] at hU
          replace hA := hide hA; replace hU := hide hU
          clear hSome hNone hx hst hTx ht1 ht2 hus hd1
          go_enter Tryz.func46, Tryz.ntmps46
          go_wp2_with (first
            | (go_at_call 73; refine (unhide hL _ (unhide hv)).mono ?_; rintro e w1 ⟨rfl, hb1⟩; have v1 := hide (unhide hD _ ((unhide hv).grow hb1)); replace hb1 := hide hb1)
            | (go_at_call 74; refine (unhide hA _ (unhide v1)).mono ?_; rintro e w2 ⟨A2, c2, rfl, _, hb2⟩)
            | fail)
          go_ret2
          exact UnpackOut.bad (unhide hU) rfl (bl_call (unhide hb1) hb2)
    · rw [tailR_start h3 hst] at hU
      have hA := fun W h => hBad W h hst
      replace hA := hide hA; replace hU := hide hU
      clear hSome hNone hBad hst
      go_enter Tryz.func46, Tryz.ntmps46
      go_wp2_with (first
        | (go_at_call 73; refine (unhide hL _ (unhide hv)).mono ?_; rintro e w1 ⟨rfl, hb1⟩; have v1 := hide (unhide hD _ ((unhide hv).grow hb1)); replace hb1 := hide hb1)
        | (go_at_call 74; refine (unhide hA _ (unhide v1)).mono ?_; rintro e w2 ⟨rfl, hb2⟩)
        | fail)
      go_ret2
      exact UnpackOut.bad (unhide hU) rfl (bl_call (unhide hb1) hb2)
  · have hr : unpackR t most = ([], 2) := by unfold unpackR; rw [if_neg h0, if_pos h9]
    have e2 : longR t = (0, 2) := by
      unfold longR at h9 ⊢
      split
      · rfl
      · rename_i h; rw [if_neg h] at h9; exact absurd rfl h9
    rw [e2] at hL
    replace hL := hide hL; replace hr := hide hr; replace hv := hide hv
    clear h9 e2
    go_enter Tryz.func46, Tryz.ntmps46
    go_wp2_with (first
      | (go_at_call 73; refine (unhide hL _ (unhide hv)).mono ?_; rintro e w1 ⟨rfl, hb1⟩)
      | fail)
    go_ret2
    exact UnpackOut.bad (unhide hr) rfl hb1
end
end Go.Proofs.YthkccpemgmpadaaGreatDoor.P

namespace Go.Proofs.YthkccpemgmpadaaGreatDoor.P
set_option maxRecDepth 100000
open Go.RowKit
set_option maxHeartbeats 1000000 in
theorem refNum_any (N k : Nat) (c : Int) (w : World) (hk : k ≤ 8) (hc : 0 ≤ c ∧ c ≤ 528) :
    Calls Tryz.prog 100 #[.int .i64 N, .int .i64 k, .int .i64 c] w fun e w' => ∃ A' c', e = .returned (.slice A' k c') ∧ w'.ownsRow w.heap.size 121 2 (.slice A' k c') k ((numB c N k 1).flatMap btc) ∧ Below w.heap.size w w' := by
  obtain ⟨i0, hi0, iz0, iz1, iz2⟩ := info_parts info51
  go_enter Tryz.func100, Tryz.ntmps100
  go_wp2_with fail
  go_loopw [7, 8, 9] (fun s7 s8 s9 wr => ∃ (j m c' : Nat) (K : Int) (A' : Option Addr) (lj : List Bit), j ≤ k ∧ s7 = .slice A' j c' ∧ s8 = .int .i64 m ∧ s9 = .int .i64 K ∧ K = (k : Int) - 1 - j ∧ Hid (m < 2 ^ (j + 1)) ∧ m < 1024 ∧ Hid (numB c N k 1 = lj ++ numB c N (k - j) m) ∧ Hid (wr.ownsRow w.heap.size 121 2 (.slice A' j c') j (lj.flatMap btc)) ∧ Hid (Below w.heap.size w wr)) (fun _ _ s9 _ => (intOf s9 + 1).toNat)
  case atStart => exact ⟨0, 1, 0, (k : Int) - 1, none, [], by omega, rfl, rfl, rfl, by omega, hide (by decide), by omega, hide rfl, hide (World.ownsRow_nil _ _ _ _), hide (Below.refl _ _)⟩
  case round =>
    obtain ⟨j, m, c', K, A', lj, hj, rfl, rfl, rfl, hK, hm, hm2, hl, ho, hB⟩ := hrel
    by_cases hlt : j < k
    · obtain ⟨J, hJ⟩ : ∃ J, J = k - 1 - j := ⟨_, rfl⟩
      have hKn : K = (J : Int) := by omega
      subst hKn
      have hnx := numB_step c N (k - (j + 1)) m
      rw [show k - (j + 1) + 1 = k - j by omega, show k - (j + 1) = J by omega] at hnx
      have hq : N / 2 ^ J % 2 = 0 ∨ N / 2 ^ J % 2 = 1 := by omega
      have hdv : ((N : Int) / 2 ^ J) = ((N / 2 ^ J : Nat) : Int) := by simp
      have hrm : ((N : Int) / 2 ^ J).tmod 2 = ((N / 2 ^ J % 2 : Nat) : Int) := by rw [hdv]; generalize N / 2 ^ J = Z; rw [Int.tmod_eq_emod_of_nonneg (by omega)]; omega
      clear hdv
      have u1 : j + 1 ≤ maxLen := by simp only [maxLen]; omega
      have u2 : (j + 1) * 16 ≤ 140737488355328 := by omega
      have hsz := (unhide hB).size
      have hJ8 : J ≤ 8 := by omega
      have hJk : J + j + 1 = k := by omega
      replace hJk := hide hJk
      clear hJ hK
      rcases hq with hq | hq
      · rw [hq] at hrm hnx
        replace hrm : ((N : Int) / 2 ^ J).tmod 2 = 0 := hrm
        rw [show ((0 : Nat) == 1) = false from rfl] at hnx
        have hm3 : 2 * m + 0 < 2 ^ (j + 1 + 1) := by rw [Nat.pow_succ]; have := unhide hm; omega
        have hm4 : 2 * m + 0 < 1024 := by
          have : 2 ^ (j + 1 + 1) ≤ 2 ^ 9 := Nat.pow_le_pow_right (by omega) (by omega)
          omega
        have hto := btc_one ⟨c + m, false⟩
        have hfl := bt_snoc lj ⟨c + m, false⟩
        have hl2 : numB c N k 1 = (lj ++ [⟨c + m, false⟩]) ++ numB c N (k - (j + 1)) (2 * m + 0) := by rw [unhide hl, hnx, show k - (j + 1) = J by have := unhide hJk; omega]; simp
        replace hl2 := hide hl2; replace hm3 := hide hm3; replace hto := hide hto; replace hfl := hide hfl; replace u1 := hide u1; replace u2 := hide u2; replace hsz := hide hsz
        clear hl hnx hq
        go_wp2_with (first
          | (at_builtin
             refine wpList_app _ rfl (.tmp 22) (.tmp 28) 85 rfl w.heap.size 121 i0 _ 2 16 Tryz.underlying85 hi0 iz0 iz1 iz2 rfl (Nat.succ_pos _) _ j (lj.flatMap btc) rfl ((unhide ho).alloc _) (some ⟨wr.heap.size, 0, none⟩) 1 1 (btc ⟨c + m, false⟩) rfl rfl (bt_src (x := ⟨c + m, false⟩) (Blk.new rfl)) (unhide hto) (unhide u1) (unhide u2) (by have := unhide hsz; simp; omega) ?_
             intro v2 w2 hown2 hg2
             obtain ⟨A2, c2, rfl⟩ := ownsRow_form hown2
             rw [unhide hfl] at hown2)
          | fail)
        go_roundw
        case rel => exact ⟨j + 1, 2 * m + 0, c2, (J : Int) - 1, A2, lj ++ [⟨c + m, false⟩], by omega, rfl, by go_num, rfl, by have := unhide hJk; omega, hm3, hm4, hl2, hide hown2, hide (bl_grown (bl_alloc (unhide hB) _) hg2 (own_base (unhide ho)))⟩
        case measure => simp [intOf]
      · rw [hq] at hrm hnx
        replace hrm : ((N : Int) / 2 ^ J).tmod 2 = 1 := hrm
        rw [show ((1 : Nat) == 1) = true from rfl] at hnx
        have hm3 : 2 * m + 1 < 2 ^ (j + 1 + 1) := by rw [Nat.pow_succ]; have := unhide hm; omega
        have hm4 : 2 * m + 1 < 1024 := by
          have : 2 ^ (j + 1 + 1) ≤ 2 ^ 9 := Nat.pow_le_pow_right (by omega) (by omega)
          omega
        have hto := btc_one ⟨c + m, true⟩
        have hfl := bt_snoc lj ⟨c + m, true⟩
        have hl2 : numB c N k 1 = (lj ++ [⟨c + m, true⟩]) ++ numB c N (k - (j + 1)) (2 * m + 1) := by rw [unhide hl, hnx, show k - (j + 1) = J by have := unhide hJk; omega]; simp
        replace hl2 := hide hl2; replace hm3 := hide hm3; replace hto := hide hto; replace hfl := hide hfl; replace u1 := hide u1; replace u2 := hide u2; replace hsz := hide hsz
        clear hl hnx hq
        go_wp2_with (first
          | (at_builtin
             refine wpList_app _ rfl (.tmp 22) (.tmp 28) 85 rfl w.heap.size 121 i0 _ 2 16 Tryz.underlying85 hi0 iz0 iz1 iz2 rfl (Nat.succ_pos _) _ j (lj.flatMap btc) rfl ((unhide ho).alloc _) (some ⟨wr.heap.size, 0, none⟩) 1 1 (btc ⟨c + m, true⟩) rfl rfl (bt_src (x := ⟨c + m, true⟩) (Blk.new rfl)) (unhide hto) (unhide u1) (unhide u2) (by have := unhide hsz; simp; omega) ?_
             intro v2 w2 hown2 hg2
             obtain ⟨A2, c2, rfl⟩ := ownsRow_form hown2
             rw [unhide hfl] at hown2)
          | fail)
        go_roundw
        case rel => exact ⟨j + 1, 2 * m + 1, c2, (J : Int) - 1, A2, lj ++ [⟨c + m, true⟩], by omega, rfl, by go_num, rfl, by have := unhide hJk; omega, hm3, hm4, hl2, hide hown2, hide (bl_grown (bl_alloc (unhide hB) _) hg2 (own_base (unhide ho)))⟩
        case measure => simp [intOf]
    · obtain rfl : j = k := by omega
      have e : numB c N j 1 = lj := by rw [unhide hl, Nat.sub_self]; simp [numB]
      have hKn : K = -1 := by omega
      subst hKn
      clear hl hlt hK
      replace e := hide e
      go_wp2_with fail
      go_ret
      rw [unhide e]
      exact ⟨_, _, rfl, unhide ho, unhide hB⟩
end Go.Proofs.YthkccpemgmpadaaGreatDoor.P
