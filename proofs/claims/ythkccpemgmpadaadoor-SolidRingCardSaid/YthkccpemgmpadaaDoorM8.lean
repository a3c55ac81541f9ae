import Derived.Test.YthkccpemgmpadaaDoorM7
import Derived.LoopN
import Derived.IntWalk
namespace Go.Proofs.YthkccpemgmpadaaDoor
set_option maxRecDepth 100000
open Go.RowKit

/-! ### Few, and Test -/
theorem Pcs.parts {w : World} {v : Value} {l : List Pc} (h : Pcs 0 w.heap.size w v l) : (l = [] ∧ ∃ A c, v = .slice A 0 c) ∨ ∃ b off c, v = .slice (some ⟨b, off, none⟩) l.length c ∧ b < w.heap.size ∧ ∀ k (hk : k < l.length), w.cell? ⟨b, off + k * 3, none⟩ = some (.int .i64 l[k].at_) ∧ w.cell? ⟨b, off + k * 3 + 1, none⟩ = some (.int .i64 l[k].len) ∧ w.cell? ⟨b, off + k * 3 + 2, none⟩ = some (u32v l[k].sum) := by
  obtain ⟨A, c, rfl, h1, h2⟩ := h
  rcases Nat.eq_zero_or_pos l.length with h0 | h0
  · exact .inl ⟨List.eq_nil_of_length_eq_zero h0, A, c, by rw [h0]⟩
  · obtain ⟨b, off, rfl, _, g2⟩ := h1 h0
    exact .inr ⟨b, off, c, rfl, g2, h2 b off rfl⟩
/-- Few texts, and short ones. -/
def fewB (l : List (List UInt8)) : Bool := l.all (fun b => decide (b.length ≤ 60)) && decide (l.length ≤ 8)
theorem few_flat {l : List (List UInt8)} (h : fewB l = true) : l.length ≤ 8 ∧ l.flatten.length ≤ 480 := by
  unfold fewB at h
  rw [Bool.and_eq_true, List.all_eq_true, decide_eq_true_iff] at h
  obtain ⟨h1, h2⟩ := h
  have hs : ∀ (m : List (List UInt8)), (∀ b ∈ m, b.length ≤ 60) → m.flatten.length ≤ 60 * m.length := by
    intro m
    induction m with
    | nil => intro _; simp
    | cons b r ih =>
      intro hm
      have := ih fun x hx => hm x (by simp [hx])
      have := hm b (by simp)
      rw [List.flatten_cons, List.length_append, List.length_cons]
      omega
  have := hs l fun b hb => by simpa using h1 b hb
  exact ⟨h2, by omega⟩
theorem wr64 {n k : Nat} (h : (n : Int) ≤ 9223372036854775807) (hk : k < n) : wrap64 ((k : Int) + 1) = (k : Int) + 1 := IntWalk.wrap64_in _ (by omega)
/-- The first texts are short. -/
def shortK (l : List (List UInt8)) (k : Nat) : Prop := ∀ b ∈ l.take k, b.length ≤ 60
theorem short_zero (l : List (List UInt8)) : shortK l 0 := fun b hb => by simp at hb
theorem short_step {l : List (List UInt8)} {k : Nat} (h : shortK l k) (hk : k < l.length) (h6 : l[k].length ≤ 60) : shortK l (k + 1) := by
  intro b hb
  rw [show l.take (k + 1) = l.take k ++ [l[k]] by rw [List.take_add_one, List.getElem?_eq_getElem hk]; rfl, List.mem_append, List.mem_singleton] at hb
  rcases hb with hb | rfl
  · exact h b hb
  · exact h6
theorem few_bad {l : List (List UInt8)} {k : Nat} (hk : k < l.length) (h6 : ¬ l[k].length ≤ 60) : fewB l = false := by
  unfold fewB
  rw [Bool.and_eq_false_iff]
  refine .inl ?_
  rw [List.all_eq_false]
  exact ⟨l[k], List.getElem_mem hk, by simpa using h6⟩
theorem few_end {l : List (List UInt8)} {k : Nat} (h : shortK l k) (hk : k = l.length) : fewB l = decide ((k : Int) ≤ 8) := by
  unfold fewB
  have h1 : (l.all fun b => decide (b.length ≤ 60)) = true := List.all_eq_true.2 fun b hb => by
    have := h b (by rw [hk, List.take_length]; exact hb)
    simpa using this
  rw [h1, Bool.true_and, ← hk, Bool.eq_iff_iff, decide_eq_true_iff, decide_eq_true_iff]
  omega
set_option maxHeartbeats 1000000 in
theorem Few_any (v : Value) (l : List (List UInt8)) (w : World) (h : Bss w.heap.size w v l) (hn : (l.length : Int) ≤ 9223372036854775807) :
    Calls Tryd.prog 7 #[v] w fun e w' => e = .returned (.bool (fewB l)) ∧ w = w' := by
  rcases h.parts with ⟨rfl, A, c, rfl⟩ | ⟨b, off, c, rfl, ht⟩
  · clear h hn
    have k2 : fewB [] = true := by decide
    replace k2 := hide k2
    go_enter Tryd.func7, Tryd.ntmps7
    go_wp2_with fail
    refine wp_loop_rounds 1 ?_
    rw [rounds_succ]
    go_wp2_with fail
    go_ret
    exact ⟨ret_b rfl (unhide k2).symm, rfl⟩
  · have hk3 : (l.length : Int) ≤ 9223372036854775807 := hn
    obtain ⟨n, hn'⟩ : ∃ n, n = l.length := ⟨_, rfl⟩
    rw [← hn'] at hk3 ⊢
    replace ht := hide ht; replace hn' := hide hn'; replace hk3 := hide hk3
    clear h hn
    go_enter Tryd.func7, Tryd.ntmps7
    go_wp2_with fail
    go_loopw [7] (fun s7 wr => ∃ (k : Nat), k ≤ n ∧ s7 = .int .i64 k ∧ Hid (shortK l k) ∧ w = wr) (fun i _ => n - (intOf i).toNat)
    case atStart => exact ⟨0, by omega, rfl, hide (short_zero l), rfl⟩
    case round =>
      obtain ⟨k, hk, rfl, hA, rfl⟩ := hrel
      by_cases hlt : k < n
      · have k3 : (k : Int) + 1 ≤ 9223372036854775807 := by have := unhide hk3; omega
        have hlt' : k < l.length := by rw [← unhide hn']; exact hlt
        obtain ⟨A, c, hc, _⟩ := (unhide ht).at_ k hlt'
        have hbl := (unhide ht).lt
        by_cases h6 : l[k].length ≤ 60
        · have k1 : ¬ (60 : Int) < (l[k].length : Int) := by omega
          have k2 := hide (short_step (unhide hA) hlt' h6)
          generalize l[k].length = m at *
          go_wp2_with fail
          go_roundw
          case rel => exact ⟨k + 1, by omega, by go_num, k2, by simp⟩
          case measure => simp [intOf]; omega
        · have k1 : (60 : Int) < (l[k].length : Int) := by omega
          have k2 := hide (few_bad hlt' h6)
          generalize l[k].length = m at *
          go_wp2_with fail
          go_ret
          exact ⟨ret_b rfl (unhide k2).symm, rfl⟩
      · obtain rfl : k = n := by omega
        have k2 := hide (few_end (unhide hA) (unhide hn'))
        go_wp2_with fail
        go_ret
        exact ⟨ret_b rfl (unhide k2).symm, rfl⟩
end Go.Proofs.YthkccpemgmpadaaDoor

namespace Go.Proofs.YthkccpemgmpadaaDoor
set_option maxRecDepth 100000
open Go.RowKit

theorem testE_step {t : List UInt8} {l : List Pc} {k : Nat} (hk : k < l.length) (h : testE t l = testE t (l.drop k)) (h0 : findE t l[k] = 0) : testE t l = testE t (l.drop (k + 1)) := by
  rw [h, List.drop_eq_getElem_cons hk]
  conv => lhs; unfold testE
  rw [if_neg (by rw [h0]; simp)]
theorem testE_bad {t : List UInt8} {l : List Pc} {k : Nat} (hk : k < l.length) (h : testE t l = testE t (l.drop k)) (h0 : findE t l[k] ≠ 0) : testE t l = findE t l[k] := by
  rw [h, List.drop_eq_getElem_cons hk]
  unfold testE
  rw [if_pos h0]
theorem testE_end {t : List UInt8} {l : List Pc} (h : testE t l = testE t (l.drop l.length)) : testE t l = 0 := by rw [h, List.drop_length]; rfl
section
variable (s : St) (v pv : Value) (b : List UInt8) (l : List Pc) (w : World) (ht : Tab w) (h : Bs 0 w.heap.size w v b) (hl : b.length ≤ 60000) (hp : Pcs 0 w.heap.size w pv l) (hok : ∀ p ∈ l, OkP p) (hn : l.length ≤ 1000)
set_option maxHeartbeats 2000000 in
include ht h hl hp in
theorem Test_err (he : (openS s b).2 ≠ 0) : Calls Tryd.prog 10 #[stV s, v, pv] w fun e w' => e = .returned (.int .i64 (testS s b l)) ∧ Below w.heap.size w w' := by
  have hT : testS s b l = (openS s b).2 := by unfold testS; rw [if_pos he]
  rw [hT]
  have hO := fun W (hb : Below w.heap.size w W) => Open_any' s v b W (ht.below hb (Nat.le_refl _)) (h.to hb) hl
  obtain ⟨A, c, rfl⟩ := h.form
  obtain ⟨A', c', rfl, _⟩ := hp
  unfold Ans at hO
  generalize openS s b = RR at *
  obtain ⟨T, er⟩ := RR
  simp only [] at he hO ⊢
  have hz : (er == 0) = false := by simpa using he
  have X0 : Fx w (w.alloc (.cells (stC s) 24)) [(w.heap.size, 24, stC s)] [] [] := (Fx.nil w).newB w.heap.size rfl (stC s) 24
  generalize b.length = m at *
  generalize T.length = m1 at *
  replace X0 := hide X0; replace hO := hide hO
  clear hT ht h hl he
  go_enter Tryd.func10, Tryd.ntmps10
  go_upto_region 1 with (fail)
  generalize hW : World.alloc w _ = W at *
  clear hW
  have c00 : W.cell? ⟨w.heap.size, 0, none⟩ = some (u32v s.a) := ((unhide X0).get 0 rfl).cell 0
  have c01 : W.cell? ⟨w.heap.size, 1, none⟩ = some (u32v s.b) := ((unhide X0).get 0 rfl).cell 1
  have c02 : W.cell? ⟨w.heap.size, 2, none⟩ = some (u32v s.c) := ((unhide X0).get 0 rfl).cell 2
  have c03 : W.cell? ⟨w.heap.size, 3, none⟩ = some (u32v s.d) := ((unhide X0).get 0 rfl).cell 3
  go_wp2_with (first
    | (go_at_call 9; refine (unhide hO _ (unhide X0).bl).mono ?_; rintro e w2 ⟨A2, c2, rfl, o2, hb2⟩
       have b2 := hide (bl_call (unhide X0).bl hb2)
       clear o2 hb2)
    | fail)
  go_ret
  exact ⟨rfl, unhide b2⟩
set_option maxHeartbeats 4000000 in
include ht h hl hp hok hn in
theorem Test_ok (he : (openS s b).2 = 0) (hTl : (openS s b).1.length ≤ 1000000) : Calls Tryd.prog 10 #[stV s, v, pv] w fun e w' => e = .returned (.int .i64 (testS s b l)) ∧ Below w.heap.size w w' := by
  have hT : testS s b l = testE (openS s b).1 l := by unfold testS; rw [if_neg (by rw [he]; simp)]
  rw [hT]
  have hO := fun W (hb : Below w.heap.size w W) => Open_any' s v b W (ht.below hb (Nat.le_refl _)) (h.to hb) hl
  obtain ⟨A, c, rfl⟩ := h.form
  unfold Ans at hO
  generalize openS s b = RR at *
  obtain ⟨T, er⟩ := RR
  simp only [] at he hO hTl ⊢
  subst he
  have hF := fun v2 k (hk : k < l.length) W (h2 : Bs 0 W.heap.size W v2 T) => find_any v2 T l[k].at_ l[k].len l[k].sum W h2 (hok _ (List.getElem_mem hk)) hTl
  have X0 : Fx w (w.alloc (.cells (stC s) 24)) [(w.heap.size, 24, stC s)] [] [] := (Fx.nil w).newB w.heap.size rfl (stC s) 24
  generalize b.length = m at *
  generalize hm1 : T.length = m1 at *
  rcases hp.parts with ⟨rfl, A', c', rfl⟩ | ⟨bk, off, c', rfl, hbk, hcl⟩
  · replace X0 := hide X0; replace hO := hide hO
    clear hT ht h hl hF hm1 hTl hp hok hn
    go_enter Tryd.func10, Tryd.ntmps10
    go_upto_region 1 with (fail)
    generalize hW : World.alloc w _ = W at *
    clear hW
    have c00 : W.cell? ⟨w.heap.size, 0, none⟩ = some (u32v s.a) := ((unhide X0).get 0 rfl).cell 0
    have c01 : W.cell? ⟨w.heap.size, 1, none⟩ = some (u32v s.b) := ((unhide X0).get 0 rfl).cell 1
    have c02 : W.cell? ⟨w.heap.size, 2, none⟩ = some (u32v s.c) := ((unhide X0).get 0 rfl).cell 2
    have c03 : W.cell? ⟨w.heap.size, 3, none⟩ = some (u32v s.d) := ((unhide X0).get 0 rfl).cell 3
    go_wp2_with (first
      | (go_at_call 9; refine (unhide hO _ (unhide X0).bl).mono ?_; rintro e w2 ⟨A2, c2, rfl, o2, hb2⟩
         have b2 := hide (bl_call (unhide X0).bl hb2)
         clear o2 hb2)
      | fail)
    refine wp_loop_rounds 1 ?_
    rw [rounds_succ]
    go_wp2_with fail
    go_ret
    exact ⟨rfl, unhide b2⟩
  · obtain ⟨n, hn'⟩ : ∃ n, n = l.length := ⟨_, rfl⟩
    rw [← hn']
    have hn2 : n ≤ 1000 := by rw [hn']; exact hn
    replace X0 := hide X0; replace hO := hide hO; replace hF := hide hF; replace hn' := hide hn'; replace hcl := hide hcl; replace hbk := hide hbk
    clear hT ht h hl hm1 hTl hp hok hn
    go_enter Tryd.func10, Tryd.ntmps10
    go_upto_region 1 with (fail)
    generalize hW : World.alloc w _ = W at *
    clear hW
    have c00 : W.cell? ⟨w.heap.size, 0, none⟩ = some (u32v s.a) := ((unhide X0).get 0 rfl).cell 0
    have c01 : W.cell? ⟨w.heap.size, 1, none⟩ = some (u32v s.b) := ((unhide X0).get 0 rfl).cell 1
    have c02 : W.cell? ⟨w.heap.size, 2, none⟩ = some (u32v s.c) := ((unhide X0).get 0 rfl).cell 2
    have c03 : W.cell? ⟨w.heap.size, 3, none⟩ = some (u32v s.d) := ((unhide X0).get 0 rfl).cell 3
    go_wp2_with (first
      | (go_at_call 9; refine (unhide hO _ (unhide X0).bl).mono ?_; rintro e w2 ⟨A2, c2, rfl, o2, hb2⟩
         have X2 : Fx w w2 [(w.heap.size, 24, stC s)] [] [(.slice A2 m1 c2, T)] := ((unhide X0).call hb2).addZ (Bs.of_own0 o2)
         replace X2 := hide X2
         clear o2 hb2)
      | fail)
    clear c00 c01 c02 c03 X0
    go_loopw [24] (fun s24 wr => ∃ (k : Nat), k ≤ n ∧ s24 = .int .i64 k ∧ Hid (testE T l = testE T (l.drop k)) ∧ Hid (Fx w wr [] [] [(.slice A2 m1 c2, T)])) (fun i _ => n - (intOf i).toNat)
    case atStart => exact ⟨0, by omega, rfl, hide rfl, hide ((unhide X2).sub (fun _ h => (nomatch h)) (fun _ h => h) (fun _ h => h))⟩
    case round =>
      obtain ⟨k, hk, rfl, hE, X3⟩ := hrel
      by_cases hlt : k < n
      · have hlt' : k < l.length := by rw [← unhide hn']; exact hlt
        obtain ⟨p0, p1, p2⟩ := unhide hcl k hlt'
        have bb := (unhide X3).bl
        have q0 : wr.cell? ⟨bk, off + k * 3, none⟩ = some (.int .i64 l[k].at_) := (bb.cell (p := ⟨bk, off + k * 3, none⟩) (unhide hbk)).trans p0
        have q1 : wr.cell? ⟨bk, off + k * 3 + 1, none⟩ = some (.int .i64 l[k].len) := (bb.cell (p := ⟨bk, off + k * 3 + 1, none⟩) (unhide hbk)).trans p1
        have q2 : wr.cell? ⟨bk, off + k * 3 + 2, none⟩ = some (u32v l[k].sum) := (bb.cell (p := ⟨bk, off + k * 3 + 2, none⟩) (unhide hbk)).trans p2
        have hbl : bk < wr.heap.size := Nat.lt_of_lt_of_le (unhide hbk) bb.size
        have hq := fun W h2 => unhide hF (.slice A2 m1 c2) k hlt' W h2
        unfold FindOut pcV at hq
        simp only [] at hq
        clear p0 p1 p2 bb
        by_cases hz : findE T l[k] = 0
        · have hE2 := hide (testE_step hlt' (unhide hE) hz)
          have hz' : findE T ⟨l[k].at_, l[k].len, l[k].sum⟩ = 0 := hz
          rw [hz'] at hq
          generalize findT T ⟨l[k].at_, l[k].len, l[k].sum⟩ = F at *
          generalize l[k].at_ = a at *; generalize l[k].len = d at *; generalize l[k].sum = S at *
          replace hq := hide hq
          clear hz hz' hE
          go_wp2_with (first
            | (go_at_call 20; refine (unhide hq _ (((unhide X3).alloc _).rd 0 rfl)).mono ?_; rintro e w4 ⟨A4, c4, rfl, y4, hb4⟩
               have X4 := hide (((unhide X3).alloc _).call hb4)
               clear y4 hb4)
            | fail)
          go_roundw
          case rel => exact ⟨k + 1, by omega, by go_num, hE2, X4⟩
          case measure => simp [intOf]; omega
        · have hE2 := testE_bad hlt' (unhide hE) hz
          have hz' : findE T ⟨l[k].at_, l[k].len, l[k].sum⟩ = testE T l := hE2.symm
          rw [hz'] at hq
          rw [← hE2] at hz
          obtain ⟨er, her⟩ : ∃ er, testE T l = er := ⟨_, rfl⟩
          rw [her] at hq hz hE2
          replace her := hide her
          have hzz : (er == 0) = false := by simpa using hz
          generalize findT T ⟨l[k].at_, l[k].len, l[k].sum⟩ = F at *
          generalize l[k].at_ = a at *; generalize l[k].len = d at *; generalize l[k].sum = S at *
          replace hq := hide hq
          clear hz hz' hE hE2
          go_wp2_with (first
            | (go_at_call 20; refine (unhide hq _ (((unhide X3).alloc _).rd 0 rfl)).mono ?_; rintro e w4 ⟨A4, c4, rfl, y4, hb4⟩
               have X4 := hide (((unhide X3).alloc _).call hb4)
               clear y4 hb4)
            | fail)
          go_ret
          exact ⟨ret_i rfl (unhide her).symm, (unhide X4).bl⟩
      · obtain rfl : k = n := by omega
        have hz := hide (testE_end (by have := unhide hE; rw [unhide hn'] at this; exact this))
        clear hE
        go_wp2_with fail
        go_ret
        exact ⟨ret_i rfl (unhide hz).symm, (unhide X3).bl⟩
end
end Go.Proofs.YthkccpemgmpadaaDoor

namespace Go.Proofs.YthkccpemgmpadaaDoor
set_option maxRecDepth 100000
open Go.RowKit

/-! ### a ring as a result -/
theorem Blk.set5 {w : World} {g : Nat} {t : TypeId} {a b c d e x y z u q : Value} (h : Blk w g t #[a, b, c, d, e]) : Blk (((((w.setCell ⟨g, 0, none⟩ x).setCell ⟨g, 1, none⟩ y).setCell ⟨g, 2, none⟩ z).setCell ⟨g, 3, none⟩ u).setCell ⟨g, 4, none⟩ q) g t #[x, y, z, u, q] := by
  simpa using ((((h.set 0 x).set 1 y).set 2 z).set 3 u).set 4 q
theorem below_set5 {B : Nat} {a w : World} {g : Nat} {x y z u q : Value} (h : Below B a w) (hg : B ≤ g) : Below B a (((((w.setCell ⟨g, 0, none⟩ x).setCell ⟨g, 1, none⟩ y).setCell ⟨g, 2, none⟩ z).setCell ⟨g, 3, none⟩ u).setCell ⟨g, 4, none⟩ q) :=
  ((((h.setCell hg x).setCell hg y).setCell hg z).setCell hg u).setCell hg q
theorem own_set5 {w : World} {base n size : Nat} {e t : TypeId} {v : Value} {xs : List Value} {g : Nat} {a b c d f x y z u q : Value} (h : w.ownsRow base e size v n xs) (hg : Blk w g t #[a, b, c, d, f]) (hne : e ≠ t) :
    (((((w.setCell ⟨g, 0, none⟩ x).setCell ⟨g, 1, none⟩ y).setCell ⟨g, 2, none⟩ z).setCell ⟨g, 3, none⟩ u).setCell ⟨g, 4, none⟩ q).ownsRow base e size v n xs :=
  own_far (own_far (own_far (own_far (own_far h hg hne 0 x) (hg.set 0 x) hne 1 y) ((hg.set 0 x).set 1 y) hne 2 z) (((hg.set 0 x).set 1 y).set 2 z) hne 3 u) ((((hg.set 0 x).set 1 y).set 2 z).set 3 u) hne 4 q
theorem ret_srt {fn : Func} {p q u : Tmp} {R : Ending → World → Prop} {a : Act} {w : World} (h : fn.results = #[.tmp p, .cell q 27, .tmp u]) (g : Nat) (x : Value) (ds : Array Value) (v : Value) (hds : ds.size = 5)
    (hp : a.tmps.getD p undef = x) (hq : a.tmps.getD q undef = .pointer (some ⟨g, 0, none⟩)) (hu : a.tmps.getD u undef = v) (hg : Blk w g 27 ds) (hd : a.defers = []) (hR : R (.returned (.tuple #[x, .agg ds, v])) w) : bodyPost Tryd.prog fn R .ret a w := by
  refine bodyPost_ret (v := .tuple #[x, .agg ds, v]) ?_ hd hR
  have hl := run_loadVar_row (P := Tryd.prog) w g 27 27 ds (0, 0) _ hg Tryd.underlying27 rfl (by rw [hds]; exact size27)
  have hp' : a.tmps[p]?.getD undef = x := by simpa using hp
  have hq' : a.tmps[q]?.getD undef = .pointer (some ⟨g, 0, none⟩) := by simpa using hq
  have hu' : a.tmps[u]?.getD undef = v := by simpa using hu
  simp [results, h, hp', hq', hu', asAddr, Result.andThen, hl]
theorem ret_sprt {fn : Func} {p p2 q u : Tmp} {R : Ending → World → Prop} {a : Act} {w : World} (h : fn.results = #[.tmp p, .tmp p2, .cell q 27, .tmp u]) (g : Nat) (x x2 : Value) (ds : Array Value) (v : Value) (hds : ds.size = 5)
    (hp : a.tmps.getD p undef = x) (hp2 : a.tmps.getD p2 undef = x2) (hq : a.tmps.getD q undef = .pointer (some ⟨g, 0, none⟩)) (hu : a.tmps.getD u undef = v) (hg : Blk w g 27 ds) (hd : a.defers = []) (hR : R (.returned (.tuple #[x, x2, .agg ds, v])) w) : bodyPost Tryd.prog fn R .ret a w := by
  refine bodyPost_ret (v := .tuple #[x, x2, .agg ds, v]) ?_ hd hR
  have hl := run_loadVar_row (P := Tryd.prog) w g 27 27 ds (0, 0) _ hg Tryd.underlying27 rfl (by rw [hds]; exact size27)
  have hp' : a.tmps[p]?.getD undef = x := by simpa using hp
  have hp2' : a.tmps[p2]?.getD undef = x2 := by simpa using hp2
  have hq' : a.tmps[q]?.getD undef = .pointer (some ⟨g, 0, none⟩) := by simpa using hq
  have hu' : a.tmps[u]?.getD undef = v := by simpa using hu
  simp [results, h, hp', hp2', hq', hu', asAddr, Result.andThen, hl]

set_option maxHeartbeats 4000000 in
theorem sSeal_good (s : St) (n : Nx) (v : Value) (b : List UInt8) (w : World) (ht : Tab w) (h : Bs 0 w.heap.size w v b) (hl : b.length ≤ 1000) (hn : n ≠ 18446744073709551615#64) :
    Calls Tryd.prog 15 #[rgV s n, v] w fun e w' => ∃ A c, e = .returned (.tuple #[.slice A (sealS s n b).length c, rgV s (n + 1#64), .int .i64 0]) ∧ OwnB w' w.heap.size (.slice A (sealS s n b).length c) (sealS s n b) ∧ Below w.heap.size w w' := by
  have hpl := pkU_le (b := b) (by omega)
  have hP := fun W (hb : Below w.heap.size w W) => Pack_u 0 v b W (h.to hb) hl
  have hE := fun v2 W (hb : Below w.heap.size w W) (h2 : Bs 0 W.heap.size W v2 (pkU b)) => Seal_good s n v2 (pkU b) W (ht.below hb (Nat.le_refl _)) h2 (by omega) hn
  have hH := hid_len s n (pkU b)
  have hB := fun v3 W (h3 : Bs 0 W.heap.size W v3 (hidF s n (pkU b))) => Bytes_good n v3 (hidF s n (pkU b)) (tagF s n (hidF s n (pkU b))) W h3 (by omega)
  have hyl : (bytesF ⟨n, hidF s n (pkU b), tagF s n (hidF s n (pkU b))⟩).length ≤ 900000 := by rw [bytes_len]; show (hidF s n (pkU b)).length + 24 ≤ _; omega
  have hC := fun v4 W (h4 : Bs 0 W.heap.size W v4 (bytesF ⟨n, hidF s n (pkU b), tagF s n (hidF s n (pkU b))⟩)) => crcSeal_u 0 v4 _ W h4 hyl
  have hZ : sealS s n b = C.sealL (bytesF ⟨n, hidF s n (pkU b), tagF s n (hidF s n (pkU b))⟩) := rfl
  rw [hZ]
  unfold Ans at hP
  simp only [] at hP
  obtain ⟨A, c, rfl⟩ := h.form
  generalize C.sealL (bytesF ⟨n, hidF s n (pkU b), tagF s n (hidF s n (pkU b))⟩) = Z at *
  generalize bytesF ⟨n, hidF s n (pkU b), tagF s n (hidF s n (pkU b))⟩ = Y at *
  generalize tagF s n (hidF s n (pkU b)) = T at *
  generalize hidF s n (pkU b) = Hh at *
  generalize pkU b = Pk at *
  generalize b.length = mb at *
  obtain ⟨mp, hmp⟩ : ∃ mp, Pk.length = mp := ⟨_, rfl⟩
  rw [hmp] at hP hE hH
  generalize Y.length = my at *
  obtain ⟨mz, hmz⟩ : ∃ mz, Z.length = mz := ⟨_, rfl⟩
  rw [hmz] at hC ⊢
  have X0 : Fx w ((w.alloc (.cells (rgC s n) 27)).alloc (.cells zRg 27)) [(w.heap.size, 27, rgC s n), (w.heap.size + 1, 27, zRg)] [] [] := ((Fx.nil w).newB w.heap.size rfl (rgC s n) 27).newB (w.heap.size + 1) (by simp) zRg 27
  replace X0 := hide X0; replace hP := hide hP; replace hE := hide hE; replace hB := hide hB; replace hC := hide hC; replace hH := hide hH; replace hmp := hide hmp; replace hmz := hide hmz
  clear h hl hn ht hZ hpl hyl
  go_enter Tryd.func15, Tryd.ntmps15
  go_upto_region 1 with (fail)
  generalize hW : World.alloc (World.alloc w _) _ = W at *
  clear hW
  have c0 : W.cell? ⟨w.heap.size, 0, none⟩ = some (u32v s.a) := ((unhide X0).get 0 rfl).cell 0
  have c1 : W.cell? ⟨w.heap.size, 1, none⟩ = some (u32v s.b) := ((unhide X0).get 0 rfl).cell 1
  have c2 : W.cell? ⟨w.heap.size, 2, none⟩ = some (u32v s.c) := ((unhide X0).get 0 rfl).cell 2
  have c3 : W.cell? ⟨w.heap.size, 3, none⟩ = some (u32v s.d) := ((unhide X0).get 0 rfl).cell 3
  have c4 : W.cell? ⟨w.heap.size, 4, none⟩ = some (u64v n) := ((unhide X0).get 0 rfl).cell 4
  go_upto_region 10 with (first
    | (go_at_call 24; refine (unhide hP _ (unhide X0).bl).mono ?_; rintro e w2 ⟨A2, c2, rfl, o2, hb2⟩
       have X2 : Fx w w2 [(w.heap.size, 27, rgC s n), (w.heap.size + 1, 27, zRg)] [] [(.slice A2 mp c2, Pk)] := Fx.addZ ((unhide X0).call hb2) (Bs.of_own0 o2)
       have d0 : w2.cell? ⟨w.heap.size, 0, none⟩ = some (u32v s.a) := (X2.get 0 rfl).cell 0
       have d1 : w2.cell? ⟨w.heap.size, 1, none⟩ = some (u32v s.b) := (X2.get 0 rfl).cell 1
       have d2 : w2.cell? ⟨w.heap.size, 2, none⟩ = some (u32v s.c) := (X2.get 0 rfl).cell 2
       have d3 : w2.cell? ⟨w.heap.size, 3, none⟩ = some (u32v s.d) := (X2.get 0 rfl).cell 3
       have d4 : w2.cell? ⟨w.heap.size, 4, none⟩ = some (u64v n) := (X2.get 0 rfl).cell 4
       replace X2 := hide X2
       clear o2 hb2)
    | (go_at_call 25; refine (unhide hE _ _ (unhide X2).bl ((unhide X2).rd 0 rfl)).mono ?_; rintro e w3 ⟨A3, c3, rfl, o3, hb3⟩
       have X3' : Fx w w3 [(w.heap.size, 27, rgC s n), (w.heap.size + 1, 27, zRg)] [] [(.slice A3 mp c3, Hh)] := Fx.addZ (Fx.sub (Z' := []) ((unhide X2).call hb3) (fun _ h => h) (fun _ h => h) (fun _ h => (nomatch h))) (Bs.of_own0 o3)
       have X3 : Fx w ((w3.alloc (.cells (bxC n (.slice A3 mp c3) T) 58)).alloc (.cells (rgC s (n + 1#64)) 27)) [(w.heap.size, 27, rgC s n), (w.heap.size + 1, 27, zRg), (w3.heap.size, 58, bxC n (.slice A3 mp c3) T), (w3.heap.size + 1, 27, rgC s (n + 1#64))] [] [(.slice A3 mp c3, Hh)] := (X3'.newB w3.heap.size rfl (bxC n (.slice A3 mp c3) T) 58).newB (w3.heap.size + 1) (by simp) (rgC s (n + 1#64)) 27
       replace X3 := hide X3
       clear o3 hb3 X3')
    | (go_at_call 26; refine (unhide hB _ _ ((unhide X3).rd 0 rfl)).mono ?_; rintro e w4 ⟨A4, c4', rfl, o4, hb4⟩
       have X4 : Fx w w4 [(w.heap.size, 27, rgC s n), (w.heap.size + 1, 27, zRg), (w3.heap.size, 58, bxC n (.slice A3 mp c3) T), (w3.heap.size + 1, 27, rgC s (n + 1#64))] [] [(.slice A4 my c4', Y)] := Fx.addZ (Fx.sub (Z' := []) ((unhide X3).call hb4) (fun _ h => h) (fun _ h => h) (fun _ h => (nomatch h))) (Bs.of_own0 o4)
       replace X4 := hide X4
       clear o4 hb4)
    | fail)
  generalize w3.heap.size = g3 at *
  have p0 : w4.cell? ⟨g3 + 1, 0, none⟩ = some (u32v s.a) := ((unhide X4).get 3 rfl).cell 0
  have p1 : w4.cell? ⟨g3 + 1, 1, none⟩ = some (u32v s.b) := ((unhide X4).get 3 rfl).cell 1
  have p2 : w4.cell? ⟨g3 + 1, 2, none⟩ = some (u32v s.c) := ((unhide X4).get 3 rfl).cell 2
  have p3 : w4.cell? ⟨g3 + 1, 3, none⟩ = some (u32v s.d) := ((unhide X4).get 3 rfl).cell 3
  have p4 : w4.cell? ⟨g3 + 1, 4, none⟩ = some (u64v (n + 1#64)) := ((unhide X4).get 3 rfl).cell 4
  have q0 : w4.frozen? ⟨w.heap.size + 1, 0, none⟩ = false := ((unhide X4).get 1 rfl).frozen 0
  have q1 : w4.frozen? ⟨w.heap.size + 1, 1, none⟩ = false := ((unhide X4).get 1 rfl).frozen 1
  have q2 : w4.frozen? ⟨w.heap.size + 1, 2, none⟩ = false := ((unhide X4).get 1 rfl).frozen 2
  have q3 : w4.frozen? ⟨w.heap.size + 1, 3, none⟩ = false := ((unhide X4).get 1 rfl).frozen 3
  have q4 : w4.frozen? ⟨w.heap.size + 1, 4, none⟩ = false := ((unhide X4).get 1 rfl).frozen 4
  go_region_law (first
    | (go_simp; go_at_call 14; refine (unhide hC _ _ (by first | exact (unhide X4).rd 0 rfl | exact ((unhide X4).drew).rd 0 rfl)).mono ?_; rintro e w5 ⟨A5, c5, rfl, o5, hb5⟩
       have X5 := (unhide X4).drew.call hb5
       have r0 : w5.cell? ⟨g3 + 1, 0, none⟩ = some (u32v s.a) := (X5.get 3 rfl).cell 0
       have r1 : w5.cell? ⟨g3 + 1, 1, none⟩ = some (u32v s.b) := (X5.get 3 rfl).cell 1
       have r2 : w5.cell? ⟨g3 + 1, 2, none⟩ = some (u32v s.c) := (X5.get 3 rfl).cell 2
       have r3 : w5.cell? ⟨g3 + 1, 3, none⟩ = some (u32v s.d) := (X5.get 3 rfl).cell 3
       have r4 : w5.cell? ⟨g3 + 1, 4, none⟩ = some (u64v (n + 1#64)) := (X5.get 3 rfl).cell 4
       have u0 : w5.cell? ⟨w.heap.size + 1, 0, none⟩ = some (.int .u32 0) := (X5.get 1 rfl).cell 0
       have u1 : w5.cell? ⟨w.heap.size + 1, 1, none⟩ = some (.int .u32 0) := (X5.get 1 rfl).cell 1
       have u2 : w5.cell? ⟨w.heap.size + 1, 2, none⟩ = some (.int .u32 0) := (X5.get 1 rfl).cell 2
       have u3 : w5.cell? ⟨w.heap.size + 1, 3, none⟩ = some (.int .u32 0) := (X5.get 1 rfl).cell 3
       have u4 : w5.cell? ⟨w.heap.size + 1, 4, none⟩ = some (.int .u64 0) := (X5.get 1 rfl).cell 4
       have t0 : w5.frozen? ⟨w.heap.size + 1, 0, none⟩ = false := (X5.get 1 rfl).frozen 0
       have t1 : w5.frozen? ⟨w.heap.size + 1, 1, none⟩ = false := (X5.get 1 rfl).frozen 1
       have t2 : w5.frozen? ⟨w.heap.size + 1, 2, none⟩ = false := (X5.get 1 rfl).frozen 2
       have t3 : w5.frozen? ⟨w.heap.size + 1, 3, none⟩ = false := (X5.get 1 rfl).frozen 3
       have t4 : w5.frozen? ⟨w.heap.size + 1, 4, none⟩ = false := (X5.get 1 rfl).frozen 4
       have o5' := hide (ownsRow_mono (base' := w.heap.size) o5 (unhide X4).bl.size)
       replace X5 := hide X5
       clear o5 hb5)
    | fail)
  all_goals
    have X6 := unhide X5
    have R6 : Blk _ (w.heap.size + 1) 27 (rgC s (n + 1#64)) := Blk.set5 (x := u32v s.a) (y := u32v s.b) (z := u32v s.c) (u := u32v s.d) (q := u64v (n + 1#64)) (X6.get 1 rfl)
    have b6 := below_set5 (g := w.heap.size + 1) (x := u32v s.a) (y := u32v s.b) (z := u32v s.c) (u := u32v s.d) (q := u64v (n + 1#64)) X6.bl (Nat.le_succ _)
    have o6 := own_set5 (x := u32v s.a) (y := u32v s.b) (z := u32v s.c) (u := u32v s.d) (q := u64v (n + 1#64)) (unhide o5') (X6.get 1 rfl) (by decide)
    replace R6 := hide R6; replace b6 := hide b6; replace o6 := hide o6
    clear X6
    go_wp2_with fail
    exact ret_srt rfl (w.heap.size + 1) (.slice A5 mz c5) (rgC s (n + 1#64)) (.int .i64 0) rfl rfl rfl rfl (unhide R6) rfl ⟨A5, c5, rfl, unhide o6, unhide b6⟩
set_option maxHeartbeats 4000000 in
theorem sSeal_full (s : St) (n : Nx) (v : Value) (b : List UInt8) (w : World) (h : Bs 0 w.heap.size w v b) (hl : b.length ≤ 1000) (hn : n = 18446744073709551615#64) :
    Calls Tryd.prog 15 #[rgV s n, v] w fun e w' => e = .returned (.tuple #[.slice none 0 0, .agg zRg, .int .i64 6]) ∧ Below w.heap.size w w' := by
  have hpl := pkU_le (b := b) (by omega)
  have hP := fun W (hb : Below w.heap.size w W) => Pack_u 0 v b W (h.to hb) hl
  have hE := fun v2 W (h2 : Bs 0 W.heap.size W v2 (pkU b)) => Seal_full 0 s v2 (pkU b) W h2 (by omega)
  rw [← hn] at hE
  unfold Ans at hP
  simp only [] at hP
  obtain ⟨A, c, rfl⟩ := h.form
  generalize pkU b = Pk at *
  generalize b.length = mb at *
  obtain ⟨mp, hmp⟩ : ∃ mp, Pk.length = mp := ⟨_, rfl⟩
  rw [hmp] at hP
  have X0 : Fx w ((w.alloc (.cells (rgC s n) 27)).alloc (.cells zRg 27)) [(w.heap.size, 27, rgC s n), (w.heap.size + 1, 27, zRg)] [] [] := ((Fx.nil w).newB w.heap.size rfl (rgC s n) 27).newB (w.heap.size + 1) (by simp) zRg 27
  replace X0 := hide X0; replace hP := hide hP; replace hE := hide hE
  clear h hl hn hpl hmp
  go_enter Tryd.func15, Tryd.ntmps15
  go_upto_region 1 with (fail)
  generalize hW : World.alloc (World.alloc w _) _ = W at *
  clear hW
  have c0 : W.cell? ⟨w.heap.size, 0, none⟩ = some (u32v s.a) := ((unhide X0).get 0 rfl).cell 0
  have c1 : W.cell? ⟨w.heap.size, 1, none⟩ = some (u32v s.b) := ((unhide X0).get 0 rfl).cell 1
  have c2 : W.cell? ⟨w.heap.size, 2, none⟩ = some (u32v s.c) := ((unhide X0).get 0 rfl).cell 2
  have c3 : W.cell? ⟨w.heap.size, 3, none⟩ = some (u32v s.d) := ((unhide X0).get 0 rfl).cell 3
  have c4 : W.cell? ⟨w.heap.size, 4, none⟩ = some (u64v n) := ((unhide X0).get 0 rfl).cell 4
  go_upto_region 6 with (first
    | (go_at_call 24; refine (unhide hP _ (unhide X0).bl).mono ?_; rintro e w2 ⟨A2, c2, rfl, o2, hb2⟩
       have X2 : Fx w w2 [(w.heap.size, 27, rgC s n), (w.heap.size + 1, 27, zRg)] [] [(.slice A2 mp c2, Pk)] := Fx.addZ ((unhide X0).call hb2) (Bs.of_own0 o2)
       have d0 : w2.cell? ⟨w.heap.size, 0, none⟩ = some (u32v s.a) := (X2.get 0 rfl).cell 0
       have d1 : w2.cell? ⟨w.heap.size, 1, none⟩ = some (u32v s.b) := (X2.get 0 rfl).cell 1
       have d2 : w2.cell? ⟨w.heap.size, 2, none⟩ = some (u32v s.c) := (X2.get 0 rfl).cell 2
       have d3 : w2.cell? ⟨w.heap.size, 3, none⟩ = some (u32v s.d) := (X2.get 0 rfl).cell 3
       have d4 : w2.cell? ⟨w.heap.size, 4, none⟩ = some (u64v n) := (X2.get 0 rfl).cell 4
       replace X2 := hide X2
       clear o2 hb2)
    | (go_at_call 25; refine (unhide hE _ _ ((unhide X2).rd 0 rfl)).mono ?_; rintro e w3 ⟨rfl, hb3⟩
       have X3 : Fx w ((w3.alloc (.cells zBx 58)).alloc (.cells zRg 27)) [(w.heap.size, 27, rgC s n), (w.heap.size + 1, 27, zRg)] [] [] := ((Fx.sub (Z' := []) ((unhide X2).call hb3) (fun _ h => h) (fun _ h => h) (fun _ h => (nomatch h))).alloc _).alloc _
       replace X3 := hide X3
       clear hb3)
    | fail)
  generalize hW4 : World.alloc (World.alloc w3 _) _ = w4 at *
  clear hW4
  have B1 := (unhide X3).get 1 rfl
  have b3 := (unhide X3).bl
  have F1 : Blk (w4.setRow (w.heap.size + 1) zRg) (w.heap.size + 1) 27 zRg := B1.row zRg
  replace B1 := hide B1; replace F1 := hide F1; replace b3 := hide b3
  go_wp2_with (first
    | (refine wpList_store_row rfl 27 (.tmp 5) (.tmp 30) rfl (w.heap.size + 1) zRg rfl rfl 27 zRg (unhide B1) size27 rfl zrg_one ?_)
    | fail)
  exact ret_srt rfl (w.heap.size + 1) (.slice none 0 0) zRg (.int .i64 6) rfl rfl rfl rfl (unhide F1) rfl ⟨rfl, bl_row (unhide b3) _ (by omega)⟩
end Go.Proofs.YthkccpemgmpadaaDoor

namespace Go.Proofs.YthkccpemgmpadaaDoor
set_option maxRecDepth 100000
open Go.RowKit

theorem Fx.ring {w0 W : World} {L : List (Nat × TypeId × Array Value)} {b : Nat} {v : Value} {l : List UInt8} (h : Fx w0 W L [(b, v, l)] []) {g : Nat} {a c d e f : Value} (hK : Blk W g 27 #[a, c, d, e, f]) (hg : w0.heap.size ≤ g) (hL : ∀ p ∈ L, p.1 ≠ g) (x y z u q : Value) :
    Fx w0 (((((W.setCell ⟨g, 0, none⟩ x).setCell ⟨g, 1, none⟩ y).setCell ⟨g, 2, none⟩ z).setCell ⟨g, 3, none⟩ u).setCell ⟨g, 4, none⟩ q) (L ++ [(g, 27, #[x, y, z, u, q])]) [(b, v, l)] [] := by
  refine Fx.addB (R := [(b, v, l)]) (Z := []) ⟨below_set5 h.bl hg, fun p hp => ?_, fun p hp => ?_, fun _ hp => (nomatch hp)⟩ (Blk.set5 hK)
  · have hk := h.blk p hp
    have hn := hL p hp
    exact ((((hk.far (p := ⟨g, 0, none⟩) hn x).far (p := ⟨g, 1, none⟩) hn y).far (p := ⟨g, 2, none⟩) hn z).far (p := ⟨g, 3, none⟩) hn u).far (p := ⟨g, 4, none⟩) hn q
  · rw [List.mem_singleton.1 hp]
    obtain ⟨o, hb⟩ := h.row (b, v, l) (by simp)
    exact ⟨own_set5 o hK (by decide), by simp; exact hb⟩

section
set_option maxHeartbeats 8000000 in
theorem Build_good (s : St) (n : Nx) (v : Value) (l : List (List UInt8)) (w : World) (ht : Tab w) (h : Bss w.heap.size w v l) (hn : l.length ≤ 1000) (hL : l.flatten.length ≤ 1000) (hne : n ≠ 18446744073709551615#64) :
    Calls Tryd.prog 8 #[rgV s n, v] w fun e w' => ∃ A c A2 c2, e = .returned (.tuple #[.slice A (sealS s n l.flatten).length c, .slice A2 l.length c2, rgV s (n + 1#64), .int .i64 0]) ∧ OwnB w' w.heap.size (.slice A (sealS s n l.flatten).length c) (sealS s n l.flatten) ∧ w'.ownsRow w.heap.size 41 3 (.slice A2 l.length c2) l.length ((pcsF 0 l).flatMap pcL) ∧ Below w.heap.size w w' := by
  have hF := fun W (hb : Below w.heap.size w W) => fit_any v l W (h.grow hb) hn (by omega)
  have hC := fun W (hb : Below w.heap.size w W) => concat_bss v l W (h.grow hb) hn (by omega)
  have hS := fun v2 W (hb : Below w.heap.size w W) (h2 : Bs 0 W.heap.size W v2 l.flatten) => sSeal_good s n v2 l.flatten W (ht.below hb (Nat.le_refl _)) h2 hL hne
  have hP := fun W (hb : Below w.heap.size w W) => pieces_any v l W (h.grow hb) hn (by omega)
  obtain ⟨A, c, rfl, _⟩ := h
  generalize sealS s n l.flatten = Z at *
  generalize l.flatten = T at *
  generalize (pcsF 0 l).flatMap pcL = Q at *
  generalize l.length = ml at *
  generalize T.length = mt at *
  obtain ⟨mz, hmz⟩ : ∃ mz, Z.length = mz := ⟨_, rfl⟩
  rw [hmz] at hS ⊢
  have X0 : Fx w ((w.alloc (.cells (rgC s n) 27)).alloc (.cells zRg 27)) [(w.heap.size, 27, rgC s n), (w.heap.size + 1, 27, zRg)] [] [] := ((Fx.nil w).newB w.heap.size rfl (rgC s n) 27).newB (w.heap.size + 1) (by simp) zRg 27
  replace X0 := hide X0; replace hF := hide hF; replace hC := hide hC; replace hS := hide hS; replace hP := hide hP
  clear hn hL hne ht hmz
  go_enter Tryd.func8, Tryd.ntmps8
  go_upto_region 1 with (fail)
  generalize hW : World.alloc (World.alloc w _) _ = W at *
  clear hW
  have hc0 : W.cell? ⟨w.heap.size, 0, none⟩ = some (u32v s.a) := ((unhide X0).get 0 rfl).cell 0
  have hc1 : W.cell? ⟨w.heap.size, 1, none⟩ = some (u32v s.b) := ((unhide X0).get 0 rfl).cell 1
  have hc2 : W.cell? ⟨w.heap.size, 2, none⟩ = some (u32v s.c) := ((unhide X0).get 0 rfl).cell 2
  have hc3 : W.cell? ⟨w.heap.size, 3, none⟩ = some (u32v s.d) := ((unhide X0).get 0 rfl).cell 3
  have hc4 : W.cell? ⟨w.heap.size, 4, none⟩ = some (u64v n) := ((unhide X0).get 0 rfl).cell 4
  have l0 : w.heap.size < W.heap.size := ((unhide X0).get 0 rfl).lt
  have l1 : w.heap.size + 1 < W.heap.size := ((unhide X0).get 1 rfl).lt
  go_upto_region 3 with (first
    | (go_at_call 16; refine (unhide hF _ (unhide X0).bl).mono ?_; rintro e wz ⟨rfl, rfl⟩)
    | fail)
  go_cut [8, 9, 10] (fun s8 s9 s10 wc => ∃ A c g, s8 = .slice A mz c ∧ s9 = .pointer (some ⟨g, 0, none⟩) ∧ s10 = .int .i64 0 ∧ Hid (Fx w wc [(w.heap.size, 27, rgC s n), (w.heap.size + 1, 27, zRg), (g, 27, rgC s (n + 1#64))] [(w.heap.size, .slice A mz c, Z)] []))
  case first =>
    go_region_held3 (fun W => W.cell? ⟨w.heap.size, 0, none⟩ = some (u32v s.a) ∧ W.cell? ⟨w.heap.size, 1, none⟩ = some (u32v s.b) ∧ W.cell? ⟨w.heap.size, 2, none⟩ = some (u32v s.c) ∧ W.cell? ⟨w.heap.size, 3, none⟩ = some (u32v s.d) ∧ W.cell? ⟨w.heap.size, 4, none⟩ = some (u64v n)) (first | exact ⟨by with_reducible assumption, by with_reducible assumption, by with_reducible assumption, by with_reducible assumption, by with_reducible assumption⟩ | exact ⟨by go_simp, by go_simp, by go_simp, by go_simp, by go_simp⟩) (first
      | (go_at_call 17; refine (unhide hC W.drew (unhide X0).drew.bl).mono ?_; rintro e w5 ⟨A5, c5, rfl, o5, hb5⟩
         have X5 : Fx w w5 [(w.heap.size, 27, rgC s n), (w.heap.size + 1, 27, zRg)] [] [(.slice A5 mt c5, T)] := Fx.addZ ((unhide X0).drew.call hb5) (Bs.of_own0 o5)
         have d0 : w5.cell? ⟨w.heap.size, 0, none⟩ = some (u32v s.a) := (X5.get 0 rfl).cell 0
         have d1 : w5.cell? ⟨w.heap.size, 1, none⟩ = some (u32v s.b) := (X5.get 0 rfl).cell 1
         have d2 : w5.cell? ⟨w.heap.size, 2, none⟩ = some (u32v s.c) := (X5.get 0 rfl).cell 2
         have d3 : w5.cell? ⟨w.heap.size, 3, none⟩ = some (u32v s.d) := (X5.get 0 rfl).cell 3
         have d4 : w5.cell? ⟨w.heap.size, 4, none⟩ = some (u64v n) := (X5.get 0 rfl).cell 4
         have l5 : w.heap.size + 1 < w5.heap.size := (X5.get 1 rfl).lt
         have l5' : w.heap.size < w5.heap.size := (X5.get 0 rfl).lt
         replace X5 := hide X5
         clear o5 hb5)
      | (go_at_call 17; refine (unhide hC (W.drew.alloc (.cells zRg 27)) ((unhide X0).drew.alloc (.cells zRg 27)).bl).mono ?_; rintro e w5 ⟨A5, c5, rfl, o5, hb5⟩
         have X5 : Fx w w5 [(w.heap.size, 27, rgC s n), (w.heap.size + 1, 27, zRg)] [] [(.slice A5 mt c5, T)] := Fx.addZ (((unhide X0).drew.alloc (.cells zRg 27)).call hb5) (Bs.of_own0 o5)
         have K5 : Blk w5 W.heap.size 27 zRg := Blk.call (V := (W.drew.alloc (.cells zRg 27))) (Blk.new (w := W.drew) (t := 27) (cs := zRg) rfl) hb5
         replace K5 := hide K5
         have d0 : w5.cell? ⟨w.heap.size, 0, none⟩ = some (u32v s.a) := (X5.get 0 rfl).cell 0
         have d1 : w5.cell? ⟨w.heap.size, 1, none⟩ = some (u32v s.b) := (X5.get 0 rfl).cell 1
         have d2 : w5.cell? ⟨w.heap.size, 2, none⟩ = some (u32v s.c) := (X5.get 0 rfl).cell 2
         have d3 : w5.cell? ⟨w.heap.size, 3, none⟩ = some (u32v s.d) := (X5.get 0 rfl).cell 3
         have d4 : w5.cell? ⟨w.heap.size, 4, none⟩ = some (u64v n) := (X5.get 0 rfl).cell 4
         have l5 : w.heap.size + 1 < w5.heap.size := (X5.get 1 rfl).lt
         have l5' : w.heap.size < w5.heap.size := (X5.get 0 rfl).lt
         replace X5 := hide X5
         clear o5 hb5)
      | (go_at_call 15; refine (unhide hS _ w5 (unhide X5).bl ((unhide X5).rd 0 rfl)).mono ?_; rintro e w6 ⟨A6, c6, rfl, o6, hb6⟩
         have X6 : Fx w w6 [(w.heap.size, 27, rgC s n), (w.heap.size + 1, 27, zRg)] [(w.heap.size, .slice A6 mz c6, Z)] [] := Fx.addR (Fx.sub (Z' := []) (R' := []) ((unhide X5).call hb6) (fun _ h => h) (fun _ h => h) (fun _ h => (nomatch h))) (ownsRow_mono o6 (unhide X5).bl.size) ((unhide X5).call hb6).bl.size
         have K6 : Blk w6 W.heap.size 27 zRg := (unhide K5).call hb6
         have k0 : w6.cell? ⟨W.heap.size, 0, none⟩ = some (.int .u32 0) := K6.cell 0
         have kf0 : w6.frozen? ⟨W.heap.size, 0, none⟩ = false := K6.frozen 0
         have k1 : w6.cell? ⟨W.heap.size, 1, none⟩ = some (.int .u32 0) := K6.cell 1
         have kf1 : w6.frozen? ⟨W.heap.size, 1, none⟩ = false := K6.frozen 1
         have k2 : w6.cell? ⟨W.heap.size, 2, none⟩ = some (.int .u32 0) := K6.cell 2
         have kf2 : w6.frozen? ⟨W.heap.size, 2, none⟩ = false := K6.frozen 2
         have k3 : w6.cell? ⟨W.heap.size, 3, none⟩ = some (.int .u32 0) := K6.cell 3
         have kf3 : w6.frozen? ⟨W.heap.size, 3, none⟩ = false := K6.frozen 3
         have k4 : w6.cell? ⟨W.heap.size, 4, none⟩ = some (.int .u64 0) := K6.cell 4
         have kf4 : w6.frozen? ⟨W.heap.size, 4, none⟩ = false := K6.frozen 4
         replace K6 := hide K6
         have e0 : w6.cell? ⟨w.heap.size, 0, none⟩ = some (u32v s.a) := (X6.get 0 rfl).cell 0
         have e1 : w6.cell? ⟨w.heap.size, 1, none⟩ = some (u32v s.b) := (X6.get 0 rfl).cell 1
         have e2 : w6.cell? ⟨w.heap.size, 2, none⟩ = some (u32v s.c) := (X6.get 0 rfl).cell 2
         have e3 : w6.cell? ⟨w.heap.size, 3, none⟩ = some (u32v s.d) := (X6.get 0 rfl).cell 3
         have e4 : w6.cell? ⟨w.heap.size, 4, none⟩ = some (u64v n) := (X6.get 0 rfl).cell 4
         have l6 : w.heap.size < w6.heap.size := (X6.get 0 rfl).lt
         replace X6 := hide X6
         clear o6 hb6)
      | (go_at_call 15; refine (unhide hS _ w5 (unhide X5).bl ((unhide X5).rd 0 rfl)).mono ?_; rintro e w6 ⟨A6, c6, rfl, o6, hb6⟩
         have X6 : Fx w w6 [(w.heap.size, 27, rgC s n), (w.heap.size + 1, 27, zRg)] [(w.heap.size, .slice A6 mz c6, Z)] [] := Fx.addR (Fx.sub (Z' := []) (R' := []) ((unhide X5).call hb6) (fun _ h => h) (fun _ h => h) (fun _ h => (nomatch h))) (ownsRow_mono o6 (unhide X5).bl.size) ((unhide X5).call hb6).bl.size
         have e0 : w6.cell? ⟨w.heap.size, 0, none⟩ = some (u32v s.a) := (X6.get 0 rfl).cell 0
         have e1 : w6.cell? ⟨w.heap.size, 1, none⟩ = some (u32v s.b) := (X6.get 0 rfl).cell 1
         have e2 : w6.cell? ⟨w.heap.size, 2, none⟩ = some (u32v s.c) := (X6.get 0 rfl).cell 2
         have e3 : w6.cell? ⟨w.heap.size, 3, none⟩ = some (u32v s.d) := (X6.get 0 rfl).cell 3
         have e4 : w6.cell? ⟨w.heap.size, 4, none⟩ = some (u64v n) := (X6.get 0 rfl).cell 4
         have l6 : w.heap.size < w6.heap.size := (X6.get 0 rfl).lt
         replace X6 := hide X6
         clear o6 hb6)
      | (go_at_call 15; refine (unhide hS _ (w5.alloc (.cells zRg 27)) ((unhide X5).alloc (.cells zRg 27)).bl (((unhide X5).alloc (.cells zRg 27)).rd 0 rfl)).mono ?_; rintro e w6 ⟨A6, c6, rfl, o6, hb6⟩
         have X6 : Fx w w6 [(w.heap.size, 27, rgC s n), (w.heap.size + 1, 27, zRg)] [(w.heap.size, .slice A6 mz c6, Z)] [] := Fx.addR (Fx.sub (Z' := []) (R' := []) (((unhide X5).alloc (.cells zRg 27)).call hb6) (fun _ h => h) (fun _ h => h) (fun _ h => (nomatch h))) (ownsRow_mono o6 ((unhide X5).alloc (.cells zRg 27)).bl.size) (((unhide X5).alloc (.cells zRg 27)).call hb6).bl.size
         have K6 : Blk w6 w5.heap.size 27 zRg := Blk.call (V := (w5.alloc (.cells zRg 27))) (Blk.new (w := w5) (t := 27) (cs := zRg) rfl) hb6
         have k0 : w6.cell? ⟨w5.heap.size, 0, none⟩ = some (.int .u32 0) := K6.cell 0
         have kf0 : w6.frozen? ⟨w5.heap.size, 0, none⟩ = false := K6.frozen 0
         have k1 : w6.cell? ⟨w5.heap.size, 1, none⟩ = some (.int .u32 0) := K6.cell 1
         have kf1 : w6.frozen? ⟨w5.heap.size, 1, none⟩ = false := K6.frozen 1
         have k2 : w6.cell? ⟨w5.heap.size, 2, none⟩ = some (.int .u32 0) := K6.cell 2
         have kf2 : w6.frozen? ⟨w5.heap.size, 2, none⟩ = false := K6.frozen 2
         have k3 : w6.cell? ⟨w5.heap.size, 3, none⟩ = some (.int .u32 0) := K6.cell 3
         have kf3 : w6.frozen? ⟨w5.heap.size, 3, none⟩ = false := K6.frozen 3
         have k4 : w6.cell? ⟨w5.heap.size, 4, none⟩ = some (.int .u64 0) := K6.cell 4
         have kf4 : w6.frozen? ⟨w5.heap.size, 4, none⟩ = false := K6.frozen 4
         replace K6 := hide K6
         have e0 : w6.cell? ⟨w.heap.size, 0, none⟩ = some (u32v s.a) := (X6.get 0 rfl).cell 0
         have e1 : w6.cell? ⟨w.heap.size, 1, none⟩ = some (u32v s.b) := (X6.get 0 rfl).cell 1
         have e2 : w6.cell? ⟨w.heap.size, 2, none⟩ = some (u32v s.c) := (X6.get 0 rfl).cell 2
         have e3 : w6.cell? ⟨w.heap.size, 3, none⟩ = some (u32v s.d) := (X6.get 0 rfl).cell 3
         have e4 : w6.cell? ⟨w.heap.size, 4, none⟩ = some (u64v n) := (X6.get 0 rfl).cell 4
         have l6 : w.heap.size < w6.heap.size := (X6.get 0 rfl).lt
         replace X6 := hide X6
         clear o6 hb6)
      | fail)
    all_goals
      go_wp2_with fail
      go_meet
      first
        | exact ⟨A6, c6, _, rfl, rfl, rfl, hide ((unhide X6).newB _ rfl (rgC s (n + 1#64)) 27)⟩
        | exact ⟨A6, c6, _, rfl, rfl, rfl, hide ((unhide X6).ring (unhide K6) (by omega) (by simp; omega) (u32v s.a) (u32v s.b) (u32v s.c) (u32v s.d) (u64v (n + 1#64)))⟩
  case rest =>
    obtain ⟨A3, c3, g, rfl, rfl, rfl, X3⟩ := hcut
    clear X0 hc0 hc1 hc2 hc3 hc4 l0 l1
    go_upto_region 6 with (fail)
    have p0 : wc.cell? ⟨g, 0, none⟩ = some (u32v s.a) := ((unhide X3).get 2 rfl).cell 0
    have p1 : wc.cell? ⟨g, 1, none⟩ = some (u32v s.b) := ((unhide X3).get 2 rfl).cell 1
    have p2 : wc.cell? ⟨g, 2, none⟩ = some (u32v s.c) := ((unhide X3).get 2 rfl).cell 2
    have p3 : wc.cell? ⟨g, 3, none⟩ = some (u32v s.d) := ((unhide X3).get 2 rfl).cell 3
    have p4 : wc.cell? ⟨g, 4, none⟩ = some (u64v (n + 1#64)) := ((unhide X3).get 2 rfl).cell 4
    have y0 : wc.cell? ⟨w.heap.size + 1, 0, none⟩ = some (.int .u32 0) := ((unhide X3).get 1 rfl).cell 0
    have y1 : wc.cell? ⟨w.heap.size + 1, 1, none⟩ = some (.int .u32 0) := ((unhide X3).get 1 rfl).cell 1
    have y2 : wc.cell? ⟨w.heap.size + 1, 2, none⟩ = some (.int .u32 0) := ((unhide X3).get 1 rfl).cell 2
    have y3 : wc.cell? ⟨w.heap.size + 1, 3, none⟩ = some (.int .u32 0) := ((unhide X3).get 1 rfl).cell 3
    have y4 : wc.cell? ⟨w.heap.size + 1, 4, none⟩ = some (.int .u64 0) := ((unhide X3).get 1 rfl).cell 4
    have q0 : wc.frozen? ⟨w.heap.size + 1, 0, none⟩ = false := ((unhide X3).get 1 rfl).frozen 0
    have q1 : wc.frozen? ⟨w.heap.size + 1, 1, none⟩ = false := ((unhide X3).get 1 rfl).frozen 1
    have q2 : wc.frozen? ⟨w.heap.size + 1, 2, none⟩ = false := ((unhide X3).get 1 rfl).frozen 2
    have q3 : wc.frozen? ⟨w.heap.size + 1, 3, none⟩ = false := ((unhide X3).get 1 rfl).frozen 3
    have q4 : wc.frozen? ⟨w.heap.size + 1, 4, none⟩ = false := ((unhide X3).get 1 rfl).frozen 4
    go_region_law (first
      | (go_simp; go_at_call 18; refine (unhide hP _ (unhide X3).drew.bl).mono ?_; rintro e w7 ⟨A7, c7, rfl, o7, hb7⟩
         have X7 := (unhide X3).drew.call hb7
         have r0 : w7.cell? ⟨g, 0, none⟩ = some (u32v s.a) := (X7.get 2 rfl).cell 0
         have r1 : w7.cell? ⟨g, 1, none⟩ = some (u32v s.b) := (X7.get 2 rfl).cell 1
         have r2 : w7.cell? ⟨g, 2, none⟩ = some (u32v s.c) := (X7.get 2 rfl).cell 2
         have r3 : w7.cell? ⟨g, 3, none⟩ = some (u32v s.d) := (X7.get 2 rfl).cell 3
         have r4 : w7.cell? ⟨g, 4, none⟩ = some (u64v (n + 1#64)) := (X7.get 2 rfl).cell 4
         have u0 : w7.cell? ⟨w.heap.size + 1, 0, none⟩ = some (.int .u32 0) := (X7.get 1 rfl).cell 0
         have u1 : w7.cell? ⟨w.heap.size + 1, 1, none⟩ = some (.int .u32 0) := (X7.get 1 rfl).cell 1
         have u2 : w7.cell? ⟨w.heap.size + 1, 2, none⟩ = some (.int .u32 0) := (X7.get 1 rfl).cell 2
         have u3 : w7.cell? ⟨w.heap.size + 1, 3, none⟩ = some (.int .u32 0) := (X7.get 1 rfl).cell 3
         have u4 : w7.cell? ⟨w.heap.size + 1, 4, none⟩ = some (.int .u64 0) := (X7.get 1 rfl).cell 4
         have t0 : w7.frozen? ⟨w.heap.size + 1, 0, none⟩ = false := (X7.get 1 rfl).frozen 0
         have t1 : w7.frozen? ⟨w.heap.size + 1, 1, none⟩ = false := (X7.get 1 rfl).frozen 1
         have t2 : w7.frozen? ⟨w.heap.size + 1, 2, none⟩ = false := (X7.get 1 rfl).frozen 2
         have t3 : w7.frozen? ⟨w.heap.size + 1, 3, none⟩ = false := (X7.get 1 rfl).frozen 3
         have t4 : w7.frozen? ⟨w.heap.size + 1, 4, none⟩ = false := (X7.get 1 rfl).frozen 4
         have o7' := hide (ownsRow_mono (base' := w.heap.size) o7 (unhide X3).bl.size)
         replace X7 := hide X7
         clear o7 hb7)
      | fail)
    all_goals
      have X8 := unhide X7
      have R8 : Blk _ (w.heap.size + 1) 27 (rgC s (n + 1#64)) := Blk.set5 (x := u32v s.a) (y := u32v s.b) (z := u32v s.c) (u := u32v s.d) (q := u64v (n + 1#64)) (X8.get 1 rfl)
      have b8 := below_set5 (g := w.heap.size + 1) (x := u32v s.a) (y := u32v s.b) (z := u32v s.c) (u := u32v s.d) (q := u64v (n + 1#64)) X8.bl (Nat.le_succ _)
      have o8 := own_set5 (x := u32v s.a) (y := u32v s.b) (z := u32v s.c) (u := u32v s.d) (q := u64v (n + 1#64)) (X8.own 0 rfl) (X8.get 1 rfl) (by decide)
      have p8 := own_set5 (x := u32v s.a) (y := u32v s.b) (z := u32v s.c) (u := u32v s.d) (q := u64v (n + 1#64)) (unhide o7') (X8.get 1 rfl) (by decide)
      replace R8 := hide R8; replace b8 := hide b8; replace o8 := hide o8; replace p8 := hide p8
      clear X8
      go_wp2_with fail
      exact ret_sprt rfl (w.heap.size + 1) (.slice A3 mz c3) (.slice A7 ml c7) (rgC s (n + 1#64)) (.int .i64 0) rfl rfl rfl rfl rfl (unhide R8) rfl ⟨A3, c3, A7, c7, rfl, unhide o8, unhide p8, unhide b8⟩
end
end Go.Proofs.YthkccpemgmpadaaDoor

namespace Go.Proofs.YthkccpemgmpadaaDoor
set_option maxRecDepth 100000
open Go.RowKit

theorem Fx.ring0 {w0 W : World} {L : List (Nat × TypeId × Array Value)} (h : Fx w0 W L [] []) {g : Nat} (hg : w0.heap.size ≤ g) (hL : ∀ p ∈ L, p.1 ≠ g) (x y z u q : Value) :
    Fx w0 (((((W.setCell ⟨g, 0, none⟩ x).setCell ⟨g, 1, none⟩ y).setCell ⟨g, 2, none⟩ z).setCell ⟨g, 3, none⟩ u).setCell ⟨g, 4, none⟩ q) L [] [] := by
  refine ⟨below_set5 h.bl hg, fun p hp => ?_, fun _ hp => (nomatch hp), fun _ hp => (nomatch hp)⟩
  have hk := h.blk p hp
  have hn := hL p hp
  exact ((((hk.far (p := ⟨g, 0, none⟩) hn x).far (p := ⟨g, 1, none⟩) hn y).far (p := ⟨g, 2, none⟩) hn z).far (p := ⟨g, 3, none⟩) hn u).far (p := ⟨g, 4, none⟩) hn q

set_option maxHeartbeats 8000000 in
theorem Build_full (s : St) (n : Nx) (v : Value) (l : List (List UInt8)) (w : World) (h : Bss w.heap.size w v l) (hn : l.length ≤ 1000) (hL : l.flatten.length ≤ 1000) (hne : n = 18446744073709551615#64) :
    Calls Tryd.prog 8 #[rgV s n, v] w fun e w' => e = .returned (.tuple #[.slice none 0 0, .slice none 0 0, .agg zRg, .int .i64 6]) ∧ Below w.heap.size w w' := by
  have hF := fun W (hb : Below w.heap.size w W) => fit_any v l W (h.grow hb) hn (by omega)
  have hC := fun W (hb : Below w.heap.size w W) => concat_bss v l W (h.grow hb) hn (by omega)
  have hS := fun v2 W (h2 : Bs 0 W.heap.size W v2 l.flatten) => sSeal_full s n v2 l.flatten W h2 hL hne
  obtain ⟨A, c, rfl, _⟩ := h
  generalize l.flatten = T at *
  generalize l.length = ml at *
  generalize T.length = mt at *
  have X0 : Fx w ((w.alloc (.cells (rgC s n) 27)).alloc (.cells zRg 27)) [(w.heap.size, 27, rgC s n), (w.heap.size + 1, 27, zRg)] [] [] := ((Fx.nil w).newB w.heap.size rfl (rgC s n) 27).newB (w.heap.size + 1) (by simp) zRg 27
  replace X0 := hide X0; replace hF := hide hF; replace hC := hide hC; replace hS := hide hS
  clear hn hL hne
  go_enter Tryd.func8, Tryd.ntmps8
  go_upto_region 1 with (fail)
  generalize hW : World.alloc (World.alloc w _) _ = W at *
  clear hW
  have hc0 : W.cell? ⟨w.heap.size, 0, none⟩ = some (u32v s.a) := ((unhide X0).get 0 rfl).cell 0
  have hc1 : W.cell? ⟨w.heap.size, 1, none⟩ = some (u32v s.b) := ((unhide X0).get 0 rfl).cell 1
  have hc2 : W.cell? ⟨w.heap.size, 2, none⟩ = some (u32v s.c) := ((unhide X0).get 0 rfl).cell 2
  have hc3 : W.cell? ⟨w.heap.size, 3, none⟩ = some (u32v s.d) := ((unhide X0).get 0 rfl).cell 3
  have hc4 : W.cell? ⟨w.heap.size, 4, none⟩ = some (u64v n) := ((unhide X0).get 0 rfl).cell 4
  have l0 : w.heap.size < W.heap.size := ((unhide X0).get 0 rfl).lt
  have l1 : w.heap.size + 1 < W.heap.size := ((unhide X0).get 1 rfl).lt
  go_upto_region 3 with (first
    | (go_at_call 16; refine (unhide hF _ (unhide X0).bl).mono ?_; rintro e wz ⟨rfl, rfl⟩)
    | fail)
  go_cut [8, 9, 10] (fun s8 s9 s10 wc => ∃ g, s8 = .slice none 0 0 ∧ s9 = .pointer (some ⟨g, 0, none⟩) ∧ s10 = .int .i64 6 ∧ Hid (Fx w wc [(w.heap.size, 27, rgC s n), (w.heap.size + 1, 27, zRg)] [] []))
  case first =>
    go_region_held3 (fun W => W.cell? ⟨w.heap.size, 0, none⟩ = some (u32v s.a) ∧ W.cell? ⟨w.heap.size, 1, none⟩ = some (u32v s.b) ∧ W.cell? ⟨w.heap.size, 2, none⟩ = some (u32v s.c) ∧ W.cell? ⟨w.heap.size, 3, none⟩ = some (u32v s.d) ∧ W.cell? ⟨w.heap.size, 4, none⟩ = some (u64v n)) (first | exact ⟨by with_reducible assumption, by with_reducible assumption, by with_reducible assumption, by with_reducible assumption, by with_reducible assumption⟩ | exact ⟨by go_simp, by go_simp, by go_simp, by go_simp, by go_simp⟩) (first
      | (go_at_call 17; refine (unhide hC W.drew (unhide X0).drew.bl).mono ?_; rintro e w5 ⟨A5, c5, rfl, o5, hb5⟩
         have X5 : Fx w w5 [(w.heap.size, 27, rgC s n), (w.heap.size + 1, 27, zRg)] [] [(.slice A5 mt c5, T)] := Fx.addZ ((unhide X0).drew.call hb5) (Bs.of_own0 o5)
         have d0 : w5.cell? ⟨w.heap.size, 0, none⟩ = some (u32v s.a) := (X5.get 0 rfl).cell 0
         have d1 : w5.cell? ⟨w.heap.size, 1, none⟩ = some (u32v s.b) := (X5.get 0 rfl).cell 1
         have d2 : w5.cell? ⟨w.heap.size, 2, none⟩ = some (u32v s.c) := (X5.get 0 rfl).cell 2
         have d3 : w5.cell? ⟨w.heap.size, 3, none⟩ = some (u32v s.d) := (X5.get 0 rfl).cell 3
         have d4 : w5.cell? ⟨w.heap.size, 4, none⟩ = some (u64v n) := (X5.get 0 rfl).cell 4
         have l5 : w.heap.size + 1 < w5.heap.size := (X5.get 1 rfl).lt
         have l5' : w.heap.size < w5.heap.size := (X5.get 0 rfl).lt
         replace X5 := hide X5
         clear o5 hb5)
      | (go_at_call 17; refine (unhide hC (W.drew.alloc (.cells zRg 27)) ((unhide X0).drew.alloc (.cells zRg 27)).bl).mono ?_; rintro e w5 ⟨A5, c5, rfl, o5, hb5⟩
         have X5 : Fx w w5 [(w.heap.size, 27, rgC s n), (w.heap.size + 1, 27, zRg)] [] [(.slice A5 mt c5, T)] := Fx.addZ (((unhide X0).drew.alloc (.cells zRg 27)).call hb5) (Bs.of_own0 o5)
         have K5 : Blk w5 W.heap.size 27 zRg := Blk.call (V := (W.drew.alloc (.cells zRg 27))) (Blk.new (w := W.drew) (t := 27) (cs := zRg) rfl) hb5
         replace K5 := hide K5
         have d0 : w5.cell? ⟨w.heap.size, 0, none⟩ = some (u32v s.a) := (X5.get 0 rfl).cell 0
         have d1 : w5.cell? ⟨w.heap.size, 1, none⟩ = some (u32v s.b) := (X5.get 0 rfl).cell 1
         have d2 : w5.cell? ⟨w.heap.size, 2, none⟩ = some (u32v s.c) := (X5.get 0 rfl).cell 2
         have d3 : w5.cell? ⟨w.heap.size, 3, none⟩ = some (u32v s.d) := (X5.get 0 rfl).cell 3
         have d4 : w5.cell? ⟨w.heap.size, 4, none⟩ = some (u64v n) := (X5.get 0 rfl).cell 4
         have l5 : w.heap.size + 1 < w5.heap.size := (X5.get 1 rfl).lt
         have l5' : w.heap.size < w5.heap.size := (X5.get 0 rfl).lt
         replace X5 := hide X5
         clear o5 hb5)
      | (go_at_call 15; refine (unhide hS _ w5 ((unhide X5).rd 0 rfl)).mono ?_; rintro e w6 ⟨rfl, hb6⟩
         have X6 : Fx w w6 [(w.heap.size, 27, rgC s n), (w.heap.size + 1, 27, zRg)] [] [] := Fx.sub (Z' := []) (R' := []) ((unhide X5).call hb6) (fun _ h => h) (fun _ h => h) (fun _ h => (nomatch h))
         have K6 : Blk w6 W.heap.size 27 zRg := (unhide K5).call hb6
         have k0 : w6.cell? ⟨W.heap.size, 0, none⟩ = some (.int .u32 0) := K6.cell 0
         have kf0 : w6.frozen? ⟨W.heap.size, 0, none⟩ = false := K6.frozen 0
         have k1 : w6.cell? ⟨W.heap.size, 1, none⟩ = some (.int .u32 0) := K6.cell 1
         have kf1 : w6.frozen? ⟨W.heap.size, 1, none⟩ = false := K6.frozen 1
         have k2 : w6.cell? ⟨W.heap.size, 2, none⟩ = some (.int .u32 0) := K6.cell 2
         have kf2 : w6.frozen? ⟨W.heap.size, 2, none⟩ = false := K6.frozen 2
         have k3 : w6.cell? ⟨W.heap.size, 3, none⟩ = some (.int .u32 0) := K6.cell 3
         have kf3 : w6.frozen? ⟨W.heap.size, 3, none⟩ = false := K6.frozen 3
         have k4 : w6.cell? ⟨W.heap.size, 4, none⟩ = some (.int .u64 0) := K6.cell 4
         have kf4 : w6.frozen? ⟨W.heap.size, 4, none⟩ = false := K6.frozen 4
         replace K6 := hide K6
         have e0 : w6.cell? ⟨w.heap.size, 0, none⟩ = some (u32v s.a) := (X6.get 0 rfl).cell 0
         have e1 : w6.cell? ⟨w.heap.size, 1, none⟩ = some (u32v s.b) := (X6.get 0 rfl).cell 1
         have e2 : w6.cell? ⟨w.heap.size, 2, none⟩ = some (u32v s.c) := (X6.get 0 rfl).cell 2
         have e3 : w6.cell? ⟨w.heap.size, 3, none⟩ = some (u32v s.d) := (X6.get 0 rfl).cell 3
         have e4 : w6.cell? ⟨w.heap.size, 4, none⟩ = some (u64v n) := (X6.get 0 rfl).cell 4
         have l6 : w.heap.size < w6.heap.size := (X6.get 0 rfl).lt
         replace X6 := hide X6
         clear hb6)
      | (go_at_call 15; refine (unhide hS _ w5 ((unhide X5).rd 0 rfl)).mono ?_; rintro e w6 ⟨rfl, hb6⟩
         have X6 : Fx w w6 [(w.heap.size, 27, rgC s n), (w.heap.size + 1, 27, zRg)] [] [] := Fx.sub (Z' := []) (R' := []) ((unhide X5).call hb6) (fun _ h => h) (fun _ h => h) (fun _ h => (nomatch h))
         have e0 : w6.cell? ⟨w.heap.size, 0, none⟩ = some (u32v s.a) := (X6.get 0 rfl).cell 0
         have e1 : w6.cell? ⟨w.heap.size, 1, none⟩ = some (u32v s.b) := (X6.get 0 rfl).cell 1
         have e2 : w6.cell? ⟨w.heap.size, 2, none⟩ = some (u32v s.c) := (X6.get 0 rfl).cell 2
         have e3 : w6.cell? ⟨w.heap.size, 3, none⟩ = some (u32v s.d) := (X6.get 0 rfl).cell 3
         have e4 : w6.cell? ⟨w.heap.size, 4, none⟩ = some (u64v n) := (X6.get 0 rfl).cell 4
         have l6 : w.heap.size < w6.heap.size := (X6.get 0 rfl).lt
         replace X6 := hide X6
         clear hb6)
      | (go_at_call 15; refine (unhide hS _ (w5.alloc (.cells zRg 27)) (((unhide X5).alloc (.cells zRg 27)).rd 0 rfl)).mono ?_; rintro e w6 ⟨rfl, hb6⟩
         have X6 : Fx w w6 [(w.heap.size, 27, rgC s n), (w.heap.size + 1, 27, zRg)] [] [] := Fx.sub (Z' := []) (R' := []) (((unhide X5).alloc (.cells zRg 27)).call hb6) (fun _ h => h) (fun _ h => h) (fun _ h => (nomatch h))
         have K6 : Blk w6 w5.heap.size 27 zRg := Blk.call (V := (w5.alloc (.cells zRg 27))) (Blk.new (w := w5) (t := 27) (cs := zRg) rfl) hb6
         have k0 : w6.cell? ⟨w5.heap.size, 0, none⟩ = some (.int .u32 0) := K6.cell 0
         have kf0 : w6.frozen? ⟨w5.heap.size, 0, none⟩ = false := K6.frozen 0
         have k1 : w6.cell? ⟨w5.heap.size, 1, none⟩ = some (.int .u32 0) := K6.cell 1
         have kf1 : w6.frozen? ⟨w5.heap.size, 1, none⟩ = false := K6.frozen 1
         have k2 : w6.cell? ⟨w5.heap.size, 2, none⟩ = some (.int .u32 0) := K6.cell 2
         have kf2 : w6.frozen? ⟨w5.heap.size, 2, none⟩ = false := K6.frozen 2
         have k3 : w6.cell? ⟨w5.heap.size, 3, none⟩ = some (.int .u32 0) := K6.cell 3
         have kf3 : w6.frozen? ⟨w5.heap.size, 3, none⟩ = false := K6.frozen 3
         have k4 : w6.cell? ⟨w5.heap.size, 4, none⟩ = some (.int .u64 0) := K6.cell 4
         have kf4 : w6.frozen? ⟨w5.heap.size, 4, none⟩ = false := K6.frozen 4
         replace K6 := hide K6
         have e0 : w6.cell? ⟨w.heap.size, 0, none⟩ = some (u32v s.a) := (X6.get 0 rfl).cell 0
         have e1 : w6.cell? ⟨w.heap.size, 1, none⟩ = some (u32v s.b) := (X6.get 0 rfl).cell 1
         have e2 : w6.cell? ⟨w.heap.size, 2, none⟩ = some (u32v s.c) := (X6.get 0 rfl).cell 2
         have e3 : w6.cell? ⟨w.heap.size, 3, none⟩ = some (u32v s.d) := (X6.get 0 rfl).cell 3
         have e4 : w6.cell? ⟨w.heap.size, 4, none⟩ = some (u64v n) := (X6.get 0 rfl).cell 4
         have l6 : w.heap.size < w6.heap.size := (X6.get 0 rfl).lt
         replace X6 := hide X6
         clear hb6)
      | fail)
    all_goals
      go_wp2_with fail
      go_meet
      first
        | exact ⟨_, rfl, rfl, rfl, hide ((unhide X6).alloc _)⟩
        | exact ⟨_, rfl, rfl, rfl, hide ((unhide X6).ring0 (by omega) (by simp; omega) (.int .u32 0) (.int .u32 0) (.int .u32 0) (.int .u32 0) (.int .u64 0))⟩
  case rest =>
    obtain ⟨g, rfl, rfl, rfl, X3⟩ := hcut
    clear X0 hc0 hc1 hc2 hc3 hc4 l0 l1
    have B1 := (unhide X3).get 1 rfl
    have b3 := (unhide X3).bl
    have F1 : Blk (wc.setRow (w.heap.size + 1) zRg) (w.heap.size + 1) 27 zRg := B1.row zRg
    replace B1 := hide B1; replace F1 := hide F1; replace b3 := hide b3
    go_wp2_with (first
      | (refine wpList_store_row rfl 27 (.tmp 6) (.tmp 25) rfl (w.heap.size + 1) zRg rfl rfl 27 zRg (unhide B1) size27 rfl zrg_one ?_)
      | fail)
    exact ret_sprt rfl (w.heap.size + 1) (.slice none 0 0) (.slice none 0 0) zRg (.int .i64 6) rfl rfl rfl rfl rfl (unhide F1) rfl ⟨rfl, bl_row (unhide b3) _ (by omega)⟩
end Go.Proofs.YthkccpemgmpadaaDoor

namespace Go.Proofs.YthkccpemgmpadaaDoor
set_option maxRecDepth 100000
open Go.RowKit

theorem openS_len (s : St) (b : List UInt8) (h : (openS s b).2 = 0) (hl : b.length ≤ 60000) : (openS s b).1.length ≤ 1000000 := by
  revert h
  unfold openS
  rw [if_neg (by omega)]
  split
  · intro h; rename_i h1; exact absurd h h1
  · split
    · intro h; rename_i h1; exact absurd h h1
    · intro _
      unfold unpU
      have := P.unpack_most (t := P.octs (innerS s (sumS b).1).1) (most := 65536) (P.octs_ok _)
      rcases this with ⟨_, _, h3, h4⟩ | h5
      · omega
      · rw [h5.1]; simp
theorem Test_any (s : St) (v pv : Value) (b : List UInt8) (l : List Pc) (w : World) (ht : Tab w) (h : Bs 0 w.heap.size w v b) (hl : b.length ≤ 60000) (hp : Pcs 0 w.heap.size w pv l) (hok : ∀ p ∈ l, OkP p) (hn : l.length ≤ 1000) :
    Calls Tryd.prog 10 #[stV s, v, pv] w fun e w' => e = .returned (.int .i64 (testS s b l)) ∧ Below w.heap.size w w' := by
  by_cases he : (openS s b).2 = 0
  · exact Test_ok s v pv b l w ht h hl hp hok hn he (openS_len s b he hl)
  · exact Test_err s v pv b l w ht h hl hp he
/-- Pieces that the call owns, at a place. -/
theorem pcs_own {w : World} {base n c : Nat} {A : Option Addr} {l : List Pc} (h : w.ownsRow base 41 3 (.slice A n c) n (l.flatMap pcL)) (h0 : 0 < n) : ∃ g, A = some ⟨g, 0, none⟩ ∧ base ≤ g ∧ g < w.heap.size ∧ ∀ k (hk : k < l.length), w.cell? ⟨g, k * 3, none⟩ = some (.int .i64 l[k].at_) ∧ w.cell? ⟨g, k * 3 + 1, none⟩ = some (.int .i64 l[k].len) ∧ w.cell? ⟨g, k * 3 + 2, none⟩ = some (u32v l[k].sum) := by
  have hn : n = l.length := by have := ownsRow_len h; rw [pcs_flat_len] at this; omega
  rcases h.2 with ⟨e, _⟩ | ⟨g, cap, cur, e, hb, hg, hnc, hcm, hcs, htake⟩
  · injection e with _ e _; omega
  · injection e with e1 _ e3
    subst e1 e3
    refine ⟨g, rfl, hb, Blk.lt (t := 41) (cs := cur) hg, fun k hk => ?_⟩
    have hcell := fun j (hj : j < n * 3) => World.ownsRow.cellAt (w := w) (base := base) (e := 41) (size := 3) (g := g) (n := n) (cap := c) (xs := l.flatMap pcL) h j hj
    obtain ⟨c0, c1, c2⟩ := pcs_flat_get l k hk
    exact ⟨by rw [hcell _ (by omega)]; exact c0, by rw [hcell _ (by omega)]; exact c1, by rw [hcell _ (by omega)]; exact c2⟩

/-! ### live -/
theorem live_build (v : Value) (w : World) (ht : Tab w) (h : Bss w.heap.size w v [[97, 98], [99]]) :
    Calls Tryd.prog 8 #[.agg zRg, v] w fun e w' => ∃ m A c g c2, e = .returned (.tuple #[.slice A m c, .slice (some ⟨g, 0, none⟩) 2 c2, .agg #[.int .u32 0, .int .u32 0, .int .u32 0, .int .u32 0, .int .u64 1], .int .i64 0]) ∧ g < w'.heap.size ∧ w'.cell? ⟨g, 3, none⟩ = some (.int .i64 2) ∧ w'.cell? ⟨g, 4, none⟩ = some (.int .i64 1) ∧ Below w.heap.size w w' :=
  (Build_good zS 0#64 v [[97, 98], [99]] w ht h (by decide) (by decide) (by decide)).mono fun e w' ⟨A, c, A2, c2, he, _, ho, hb⟩ => by
    obtain ⟨g, rfl, _, hg, hc⟩ := pcs_own ho (by decide)
    obtain ⟨k0, k1, _⟩ := hc 1 (by decide)
    exact ⟨_, A, c, g, c2, he, hg, k0, k1, hb⟩
set_option maxHeartbeats 1000000 in
theorem live_any (w : World) (ht : Tab w) : Calls Tryd.prog 6 #[] w fun e w' => e = .returned (.bool true) ∧ Below w.heap.size w w' := by
  have B0 : Fx w (((w.alloc (.cells #[.int .u8 97, .int .u8 98] 5)).alloc (.cells #[.int .u8 99] 5)).alloc (.cells #[.slice (some ⟨w.heap.size, 0, none⟩) 2 2, .slice (some ⟨w.heap.size + 1, 0, none⟩) 1 1] 31)) [(w.heap.size, 5, #[.int .u8 97, .int .u8 98]), (w.heap.size + 1, 5, #[.int .u8 99]), (w.heap.size + 1 + 1, 31, #[.slice (some ⟨w.heap.size, 0, none⟩) 2 2, .slice (some ⟨w.heap.size + 1, 0, none⟩) 1 1])] [] [] :=
    (((Fx.nil w).newB w.heap.size rfl _ 5).newB (w.heap.size + 1) (by simp) _ 5).newB (w.heap.size + 1 + 1) (by simp) _ 31
  have hL := live_build (.slice (some ⟨w.heap.size + 1 + 1, 0, none⟩) 2 2) _ (ht.below B0.bl (Nat.le_refl _)) (by
    refine ⟨_, 2, rfl, fun i x hx => ?_⟩
    have b0 := B0.get 0 rfl; have b1 := B0.get 1 rfl; have b2 := B0.get 2 rfl
    match i, hx with
    | 0, hx =>
      injection hx with hx; subst hx
      refine ⟨_, 0, some ⟨w.heap.size, 0, none⟩, 2, rfl, b2.lt, b2.cell 0, _, 2, rfl, Nat.le_refl _, by omega, fun _ => ⟨_, 0, rfl, Nat.zero_le _, b0.lt, fun i hi => ?_⟩⟩
      match i, hi with
      | 0, _ => exact b0.cell 0
      | 1, _ => exact b0.cell 1
    | 1, hx =>
      injection hx with hx; subst hx
      refine ⟨_, 0, some ⟨w.heap.size + 1, 0, none⟩, 1, rfl, b2.lt, b2.cell 1, _, 1, rfl, Nat.le_refl _, by omega, fun _ => ⟨_, 0, rfl, Nat.zero_le _, b1.lt, fun i hi => ?_⟩⟩
      match i, hi with
      | 0, _ => exact b1.cell 0)
  have bl := hide B0.bl
  replace hL := hide hL
  clear B0 ht
  go_enter Tryd.func6, Tryd.ntmps6
  go_wp2_with (first
    | (go_at_call 8; refine (unhide hL).mono ?_; rintro e w2 ⟨m, A, c, g, c2, rfl, hg, k3, k4, hb2⟩
       have b2 := hide (bl_call (unhide bl) hb2)
       clear hb2)
    | fail)
  go_ret
  exact ⟨rfl, bl_alloc (unhide b2) _⟩
end Go.Proofs.YthkccpemgmpadaaDoor

namespace Go.Proofs.YthkccpemgmpadaaDoor
set_option maxRecDepth 100000
open Go.RowKit

end Go.Proofs.YthkccpemgmpadaaDoor

namespace Go.Proofs.YthkccpemgmpadaaDoor
set_option maxRecDepth 100000
open Go.RowKit

theorem Bs.atR {lo hi : Nat} {w : World} {A : Option Addr} {n c k : Nat} {l : List UInt8} {x : UInt8} (h : Bs lo hi w (.slice A n c) l) (hk : l[k]? = some x) :
    ∃ b off, A = some ⟨b, off, none⟩ ∧ b < hi ∧ w.cell? ⟨b, off + k, none⟩ = some (u8v x) := by
  obtain ⟨hi', rfl⟩ := List.getElem?_eq_some_iff.1 hk
  obtain ⟨A', c', e, _, _, h3⟩ := h
  injection e with e1
  obtain ⟨b, off, rfl, _, hb, hc⟩ := h3 (by omega)
  exact ⟨b, off, e1, hb, hc k hi'⟩
end Go.Proofs.YthkccpemgmpadaaDoor

namespace Go.Proofs.YthkccpemgmpadaaDoor
set_option maxRecDepth 100000
open Go.RowKit

section
attribute [local go_sem] q_add1 wrap_add1
end
end Go.Proofs.YthkccpemgmpadaaDoor

namespace Go.Proofs.YthkccpemgmpadaaDoor
set_option maxRecDepth 100000
open Go.RowKit

section
attribute [local go_sem] guard24
end
end Go.Proofs.YthkccpemgmpadaaDoor

namespace Go.Proofs.YthkccpemgmpadaaDoor
set_option maxRecDepth 100000
open Go.RowKit

theorem wrap_mul256 (y : Nx) : IntKind.u64.wrap ((256 : Int) * n64 y) = n64 (256#64 * y) := by rw [IntKind.wrap_u64]; exact q_mul256 y
theorem wrap_sum (x y : Nx) : IntKind.u64.wrap (n64 x + n64 y) = n64 (x + y) := by rw [IntKind.wrap_u64]; exact q_add x y
theorem wrap_conv (c : UInt8) : IntKind.u64.wrap (n8 c) = n64 (oc8 c) := by rw [IntKind.wrap_u64]; exact q_conv c
section
attribute [local go_sem] wrap_mul256 wrap_sum wrap_conv q_mul256 q_add q_conv
end
end Go.Proofs.YthkccpemgmpadaaDoor

namespace Go.Proofs.YthkccpemgmpadaaDoor
set_option maxRecDepth 100000
open Go.RowKit

/-! ### each call of the program, and the reference's, with one answer -/
theorem bs_nil (W : World) : Bs 0 W.heap.size W (.slice none 0 0) [] := Bs.nil0 W
/-! ### rings compared -/
theorem equalIn_stD (d : Nat) (w : World) (s t : St) : (Op.equalIn (d + 1 + 1) 24 (stV s) (stV t)).run Tryd.prog w = .ok (sameS s t) w := by
  rw [← same4_iff]
  obtain ⟨a, b, c, e⟩ := s
  obtain ⟨a', b', c', e'⟩ := t
  show (Op.equalIn (d + 1 + 1) 24 (.agg #[.int .u32 (n32 a), .int .u32 (n32 b), .int .u32 (n32 c), .int .u32 (n32 e)]) (.agg #[.int .u32 (n32 a'), .int .u32 (n32 b'), .int .u32 (n32 c'), .int .u32 (n32 e')])).run Tryd.prog w = _
  simp only []
  generalize n32 a = xa, n32 b = xb, n32 c = xc, n32 e = xd, n32 a' = ya, n32 b' = yb, n32 c' = yc, n32 e' = yd
  rw [Op.equalIn]
  simp only [Sem.run_bind, run_underlying Tryd.underlying24, Result.andThen_ok, size22]
  simp only [Std.Legacy.Range.forIn_eq_forIn_range', Std.Legacy.Range.size, List.range', Nat.sub_zero, Nat.add_one_sub_one, Nat.div_one, List.forIn_cons, List.forIn_nil, Sem.run_bind, Nat.mul_one, part22_0, Result.andThen_ok, Nat.zero_add, Nat.reduceAdd, eqInt22]
  cases h0 : xa == ya <;> cases h1 : xb == yb <;> cases h2 : xc == yc <;> cases h3 : xd == yd <;> simp [part22_1, part22_2, part22_3, eqInt22, h1, h2, h3, Result.andThen]
theorem part27_0 (w : World) (a b c d e : Value) : (part 24 #[a, b, c, d, e] 0).run Tryd.prog w = .ok (.agg #[a, b, c, d]) w := by kernel_rfl
theorem part27_1 (w : World) (a b c d e : Value) : (part 25 #[a, b, c, d, e] 4).run Tryd.prog w = .ok e w := by kernel_rfl
theorem fields27 : (Tryd.prog.fieldsOf 27).toList = [{ name := "Key", type := 24, offset := 0, embedded := false, tag := "", pkgPath := "", byteOffset := 0 }, { name := "Next", type := 25, offset := 4, embedded := false, tag := "", pkgPath := "", byteOffset := 16 }] := by kernel_rfl
theorem under27 : Tryd.prog.underlying 27 = some (.struct (Tryd.prog.fieldsOf 27)) := by kernel_rfl
theorem held27 : Tryd.prog.stoodInHeld 27 = false := by kernel_rfl
theorem part27_a (w : World) (s : St) (n : Nx) : (part 24 (rgC s n) 0).run Tryd.prog w = .ok (stV s) w := part27_0 w _ _ _ _ _
theorem part27_b (w : World) (s : St) (n : Nx) : (part 25 (rgC s n) 4).run Tryd.prog w = .ok (u64v n) w := part27_1 w _ _ _ _ _
theorem eql_ring (w : World) (s : St) (n : Nx) : (binOp .eql 27 (rgV s n) (rgV s n)).run Tryd.prog w = .ok (.bool true) w := by
  have h : (Op.equalIn 10000 27 (rgV s n) (rgV s n)).run Tryd.prog w = .ok true w := by
    rw [show (10000 : Nat) = 9999 + 1 from rfl, run_equalIn_struct w _ 27 _ _ under27 held27, fields27]
    have e1 : (Op.equalIn 9999 24 (stV s) (stV s)).run Tryd.prog w = .ok true w := by
      have := equalIn_stD 9997 w s s
      rwa [sameS_self] at this
    have e2 : (Op.equalIn 9999 25 (u64v n) (u64v n)).run Tryd.prog w = .ok true w := by
      have := run_equalIn_int (P := Tryd.prog) w 9998 25 .u64 .u64 (n64 n) (n64 n) Tryd.underlying25
      simpa using this
    simp [Op.eqFields, part27_a, part27_b, e1, e2, Result.andThen]
  rw [run_eql_struct, h]
  rfl
theorem guard27 : Tryd.prog.eqGuardType Tryd.prog.depth 27 = false := by kernel_rfl
end Go.Proofs.YthkccpemgmpadaaDoor

namespace Go.Proofs.YthkccpemgmpadaaDoor
set_option maxRecDepth 100000
open Go.RowKit

/-! ### what the laws want -/
theorem neq_ring (w : World) (s : St) (n : Nx) : (binOp .neq 27 (rgV s n) (rgV s n)).run Tryd.prog w = .ok (.bool false) w := by
  have h : (Op.equalIn 10000 27 (rgV s n) (rgV s n)).run Tryd.prog w = .ok true w := by
    rw [show (10000 : Nat) = 9999 + 1 from rfl, run_equalIn_struct w _ 27 _ _ under27 held27, fields27]
    have e1 : (Op.equalIn 9999 24 (stV s) (stV s)).run Tryd.prog w = .ok true w := by
      have := equalIn_stD 9997 w s s
      rwa [sameS_self] at this
    have e2 : (Op.equalIn 9999 25 (u64v n) (u64v n)).run Tryd.prog w = .ok true w := by
      have := run_equalIn_int (P := Tryd.prog) w 9998 25 .u64 .u64 (n64 n) (n64 n) Tryd.underlying25
      simpa using this
    simp [Op.eqFields, part27_a, part27_b, e1, e2, Result.andThen]
  rw [run_neq_struct, h]
  rfl
theorem seal_take (s : St) (n : Nx) (b : List UInt8) : (sealS s n b).take 8 = eight n := by
  unfold sealS C.sealL bytesF
  rw [List.append_assoc, List.append_assoc]
  show (eight n ++ _).take 8 = _
  exact List.take_left' rfl
theorem eight_inj {n m : Nx} (h : eight n = eight m) : n = m := by
  have h1 := of8_app n []
  have h2 := of8_app m []
  rw [List.append_nil] at h1 h2
  rw [← h1, ← h2, h]
theorem seal_ne {s s' : St} {n m : Nx} {a b : List UInt8} (h : n ≠ m) : sealS s n a ≠ sealS s' m b := fun e => h (eight_inj (by rw [← seal_take s n a, ← seal_take s' m b, e]))
theorem nx_succ_ne (n : Nx) : n ≠ n + 1#64 := by
  intro h
  have h1 := congrArg BitVec.toNat h
  rw [BitVec.toNat_add] at h1
  have := n.isLt
  have e : (1#64 : Nx).toNat = 1 := rfl
  omega
theorem nx_low {n : Nx} (h : n64 n ≤ 4611686018427387904) : n ≠ 18446744073709551615#64 ∧ n + 1#64 ≠ 18446744073709551615#64 := by
  have h0 := upN_ne n 0 h (by omega)
  have h1 := upN_ne n 1 h (by omega)
  rw [upN_zero] at h0
  rw [← upN_succ, upN_zero] at h1
  exact ⟨h0, h1⟩
theorem nx_two (n : Nx) : (n64 n + 2) % 18446744073709551616 = n64 (n + 1#64 + 1#64) ∧ IntKind.u64.wrap (n64 n + 2) = n64 (n + 1#64 + 1#64) := by
  have e : upN n 2 = n + 1#64 + 1#64 := by rw [← upN_succ, ← upN_succ, upN_zero]
  rw [← e]
  exact ⟨upN_mod n 2 (by omega), upN_wrap n 2 (by omega)⟩
theorem nx_one (n : Nx) : (n64 n + 1) % 18446744073709551616 = n64 (n + 1#64) ∧ IntKind.u64.wrap (n64 n + 1) = n64 (n + 1#64) := by
  have e : upN n 1 = n + 1#64 := by rw [← upN_succ, upN_zero]
  rw [← e]
  exact ⟨upN_mod n 1 (by omega), upN_wrap n 1 (by omega)⟩
theorem same_yes (lo hi lo' hi' : Nat) (v1 v2 : Value) (a : List UInt8) (w : World) (h1 : Bs lo hi w v1 a) (h2 : Bs lo' hi' w v2 a) : Calls Tryd.prog 12 #[v1, v2] w fun e w' => e = .returned (.bool true) ∧ w = w' := by
  have := same_any lo hi lo' hi' v1 v2 a a w h1 h2
  rwa [decide_eq_true rfl] at this
theorem same_no (lo hi lo' hi' : Nat) (v1 v2 : Value) (a b : List UInt8) (w : World) (hne : a ≠ b) (h1 : Bs lo hi w v1 a) (h2 : Bs lo' hi' w v2 b) : Calls Tryd.prog 12 #[v1, v2] w fun e w' => e = .returned (.bool false) ∧ w = w' := by
  have := same_any lo hi lo' hi' v1 v2 a b w h1 h2
  rwa [decide_eq_false hne] at this
/-- A list of one text, in a new block. -/
theorem bss_one {w : World} {g : Nat} (hg : g = w.heap.size) {A : Option Addr} {m c : Nat} {a : List UInt8} (h : Bs 0 w.heap.size w (.slice A m c) a) : Bss (w.alloc (.cells #[.slice A m c] 31)).heap.size (w.alloc (.cells #[.slice A m c] 31)) (.slice (some ⟨g, 0, none⟩) 1 1) [a] := by
  subst hg
  have hb : Below w.heap.size w (w.alloc (.cells #[.slice A m c] 31)) := bl_alloc (Below.refl _ _) _
  have k : Blk (w.alloc (.cells #[.slice A m c] 31)) w.heap.size 31 #[.slice A m c] := Blk.new rfl
  obtain ⟨A', c', e⟩ := h.form
  injection e with e1 e2 e3
  subst e1 e2 e3
  refine ⟨_, 1, rfl, fun i x hx => ?_⟩
  match i, hx with
  | 0, hx =>
    injection hx with hx; subst hx
    exact ⟨_, 0, A, c, rfl, k.lt, k.cell 0, h.to hb⟩
end Go.Proofs.YthkccpemgmpadaaDoor

namespace Go.Proofs.YthkccpemgmpadaaDoor
set_option maxRecDepth 100000
open Go.RowKit Go.ChangeShapes Go.WideShapes Go.ChangeAt Go.Deep Go.Joins
section
variable {H : Type} {enc : TypeId × Value → H} {w : World} {base : Nat} {spare : Nat → Bool} {held : Bool}
/-- A parameter that is a list of texts, and no longer than an int. -/
theorem open_list2 {r : Reach} {b0 : Nat} {v : Value} {d : DataW H} {p : List MemPlace} (hv : Value.okWide Tryd.prog w r b0 28 v) (h : DataW.Trod enc Tryd.prog w base spare held 28 v d p) : ∃ l, Bss w.heap.size w v l ∧ (l.length : Int) ≤ 9223372036854775807 := by
  obtain ⟨a1, n1, c1, rfl⟩ := okWide_slice Tryd.underlying28 hv
  obtain ⟨fuel, hf⟩ := h
  have hcs : (Value.slice a1 n1 c1).cells.toList = [.slice a1 n1 c1] := rfl
  rw [hcs] at hf
  rcases open_slice Tryd.underlying28 hf with ⟨e, _⟩ | ⟨a, len, cap, m, n, D, Pl, e, _, hl, hm, hmm, _, hel⟩
  · simp only [List.cons.injEq, and_true] at e
    injection e with e1 e2 e3
    subst e1 e2 e3
    exact ⟨[], ⟨none, 0, rfl, fun i x hx => by simp at hx⟩, by simp⟩
  · simp only [List.cons.injEq, and_true] at e
    injection e with e1 e2 e3
    subst e1 e2 e3
    have hml : n1 ≤ m := by rw [hmm]; split <;> omega
    have key : ∀ i, i < n1 → ∃ x : List UInt8, ∃ Ai ci, w.cell? (a.add (i * 1)) = some (.slice Ai x.length ci) ∧ Bs 0 w.heap.size w (.slice Ai x.length ci) x := by
      intro i hil
      obtain ⟨cs', hcs', ht'⟩ := hel i (by omega)
      rw [cells28] at hcs'
      obtain ⟨_, hcl, hat⟩ := World.cells?_some hcs'
      obtain ⟨Ai, ci, x, ex, hb⟩ := open_bs Tryd.underlying31 Tryd.underlying5 cells5 ht'
      have hc0 := hat 0 (by omega)
      subst ex
      refine ⟨x, Ai, ci, ?_, hb⟩
      have h0 : ∀ q : Addr, q.add 0 = q := fun q => by unfold Addr.add; rw [if_pos rfl]
      rw [h0] at hc0
      simpa using hc0
    let g : Nat → List UInt8 := fun i => if hi : i < n1 then (key i hi).choose else []
    have hg : ∀ i, i < n1 → ∃ Ai ci, w.cell? (a.add (i * 1)) = some (.slice Ai (g i).length ci) ∧ Bs 0 w.heap.size w (.slice Ai (g i).length ci) (g i) := fun i hi => by
      have := (key i hi).choose_spec
      simp only [g, hi, dif_pos]
      exact this
    have hll : ((List.range n1).map g).length = n1 := by simp
    refine ⟨(List.range n1).map g, ⟨some a, c1, by rw [hll], fun i x hx => ?_⟩, by rw [hll]; unfold maxLen at hm; omega⟩
    have hi : i < n1 := by
      have := (List.getElem?_eq_some_iff.1 hx).1
      rwa [hll] at this
    have hxg : x = g i := by
      rw [List.getElem?_map, List.getElem?_range hi] at hx
      exact (Option.some.inj hx).symm
    subst hxg
    obtain ⟨Ai, ci, hc, hb⟩ := hg i hi
    obtain ⟨b, off, spot⟩ := a
    obtain rfl : spot = none := by
      obtain ⟨A0, c0, hc0, _⟩ := hg 0 (by omega)
      rw [Nat.zero_mul] at hc0
      exact spot_none hc0
    rw [add_none, Nat.mul_one] at hc
    exact ⟨b, off, Ai, ci, rfl, World.block_lt_of_cell? w _ hc, hc, hb⟩
end
end Go.Proofs.YthkccpemgmpadaaDoor
