import Derived.Test.YtfihgjdppkiolaaP14
namespace Go.Proofs.Ytfihgjdppkiolaa
set_option maxRecDepth 100000
open Go.RowKit

theorem Rdg.grownN {base g gc cc gt ct : Nat} {w w' : World} {r : Rdr} {t : List Int} {base' size n : Nat} {e : TypeId} {v : Value} {xs : List Value} (h : Rdg base g gc cc gt ct w r t) (ho : w.ownsRow base' e size v n xs) (hg : w.grownBy w' v.ownBlock) (h1 : e ≠ 114) (h2 : 3 ≠ e) (h3 : 5 ≠ e) : Rdg base g gc cc gt ct w' r t :=
  ⟨h.blk.grown hg (own_ne ho h.blk h1), own_grown h.c hg (own_own h.c ho h2), own_grown h.text hg (own_own h.text ho h3)⟩
theorem Rd1.grownN {base g gc cc gt ct : Nat} {w w' : World} {r : Rdr} {t : List Int} {base' size n : Nat} {v : Value} {xs : List Value} (h : Rd1 base g gc cc gt ct w r t) (ho : w.ownsRow base' 40 size v n xs) (hg : w.grownBy w' v.ownBlock) : Rd1 base g gc cc gt ct w' r t :=
  ⟨h.rd.grownN ho hg (by decide) (by decide) (by decide), h.ok, h.used⟩
theorem Rd1.not40 {base g gc cc gt ct : Nat} {w : World} {r : Rdr} {t : List Int} (h : Rd1 base g gc cc gt ct w r t) (hc : 0 < r.c.length) : ∀ k ∈ [g, gc], ∀ cs, ¬ Blk w k 40 cs := by
  intro k hk cs hB
  simp only [List.mem_cons, List.not_mem_nil, or_false] at hk
  rcases hk with rfl | rfl
  · exact (h.rd.blk.ne_ hB (by decide)) rfl
  · obtain ⟨g', cur, e, _, hb⟩ := own_pos h.rd.c hc
    injection e with e; injection e with e
    subst e
    exact (Blk.ne_ hb hB (by decide)) rfl
theorem Rdg.base {base g gc cc gt ct : Nat} {w : World} {r : Rdr} {t : List Int} (h : Rdg base g gc cc gt ct w r t) (hc : 0 < r.c.length) : base ≤ gc := by
  obtain ⟨g', cur, e, hb, _⟩ := own_pos h.c hc
  injection e with e; injection e with e
  subst e
  exact hb
theorem startR_c {t : List Int} : (startR 528 t).c.length = 528 := by simp [startR]
theorem treeR_c {t : List Int} {c : Int} (k m : Nat) {r : Rdr} {x : Nat × Rdr} (h : treeR t c k m r = some x) : x.2.c.length = r.c.length := by
  induction k generalizing m r with
  | zero => rw [treeR] at h; injection h with h; subst h; rfl
  | succ k ih =>
    rw [treeR] at h
    split at h
    · rw [ih _ h, nextR_c]
    · cases h
theorem tokR_c {t : List Int} {r : Rdr} {x : Tok × Rdr} (h : tokR t r = some x) : x.2.c.length = r.c.length := by
  unfold tokR at h
  split at h
  · split at h
    · split at h
      · cases h
      · rename_i h1
        split at h
        · cases h
        · rename_i h2
          injection h with h
          subst h
          have e1 := treeR_c _ _ h1
          have e2 := treeR_c _ _ h2
          simp only [] at e1 e2 ⊢
          rw [e2, e1, nextR_c]
    · split at h
      · cases h
      · rename_i h1
        injection h with h
        subst h
        have e1 := treeR_c _ _ h1
        simp only [] at e1 ⊢
        rw [e1, nextR_c]
  · cases h
theorem toksR_step {t : List Int} {n : Int} {f : Nat} {told : Int} {r : Rdr} {acc : List Tok} (h : told < n) {x : Tok} {r' : Rdr} (hx : tokR t r = some (x, r')) : toksR t n (f + 1) told r acc = toksR t n f (told + sizeT x) r' (acc ++ [x]) := by
  rw [toksR, if_pos h, hx]
theorem toksR_none {t : List Int} {n : Int} {f : Nat} {told : Int} {r : Rdr} {acc : List Tok} (h : told < n) (hx : tokR t r = none) : toksR t n (f + 1) told r acc = none := by
  rw [toksR, if_pos h, hx]
theorem toksR_end {t : List Int} {n : Int} {f : Nat} {told : Int} {r : Rdr} {acc : List Tok} (h : ¬ told < n) : toksR t n f told r acc = some (acc, r) := by
  cases f with
  | zero => rfl
  | succ f => rw [toksR, if_neg h]
theorem size_max {x : Tok} (h : okT x = true) : (if x.len < 1 then 1 else x.len) = sizeT x := by
  unfold sizeT
  by_cases h0 : x.len = 0
  · rw [if_pos h0, if_pos (by omega)]
  · have := okT_len h h0
    rw [if_neg h0, if_neg (by omega)]

theorem nat_beq (a b : Nat) : ((a : Int) == (b : Int)) = decide (a = b) := by rw [Bool.eq_iff_iff]; simp; omega

set_option maxHeartbeats 1000000 in
theorem readAll_bad (lo : Nat) (v : Value) (t : List Int) (n : Int) (w : World) (hv : Os lo w.heap.size w v t) (ht : okB t) (h : startE 528 t ≠ 0) :
    Calls Try.prog 31 #[v, .int .i64 n] w fun e w' => e = .returned (.tuple #[.slice none 0 0, .bool false]) ∧ Below w.heap.size w w' := by
  have hN := NewReader_bad 528 lo v t w hv ht h
  have h' : (startE 528 t == 0) = false := by simpa using h
  generalize startE 528 t = er at *
  replace hN := hide hN
  clear h hv
  go_enter Try.func31, Try.ntmps31
  go_wp2_with (first
    | (go_at_call 54; refine (unhide hN).mono ?_; rintro e w1 ⟨rfl, hb1⟩)
    | fail)
  go_ret2
  exact ⟨rfl, hb1⟩

set_option maxHeartbeats 2000000 in
theorem readAll_good (lo : Nat) (v : Value) (t : List Int) (n : Int) (w : World) (hv : Os lo w.heap.size w v t) (ht : okB t) (hl : t.length ≤ 1000000) (h : startE 528 t = 0) (hn0 : 0 ≤ n) (hn : n ≤ 65536) :
    Calls Try.prog 31 #[v, .int .i64 n] w fun e w' =>
      ((∃ A c l r', toksR t n n.toNat 0 (startR 528 t) [] = some (l, r') ∧ e = .returned (.tuple #[.slice A l.length c, .bool (decide (r'.used = t.length))]) ∧ w'.ownsRow w.heap.size 40 3 (.slice A l.length c) l.length (l.flatMap M.tkv)) ∨
       (toksR t n n.toNat 0 (startR 528 t) [] = none ∧ e = .returned (.tuple #[.slice none 0 0, .bool false]))) ∧ Below w.heap.size w w' := by
  obtain ⟨i0, hi0, iz0, iz1, iz2⟩ := info_parts M.info25
  have hN := NewReader_good 528 (by omega) lo v t w hv ht hl h
  have hok := okR_start (n := 528) (by omega) h ht
  have hus : (startR 528 t).used ≤ t.length := (startE_iff.1 h).2.1
  have hlc := startR_c (t := t)
  obtain ⟨A, c, rfl, x1, x2, _⟩ := hv.open
  have hRs := fun (g gc gt ct : Nat) (r : Rdr) (W : World) (k : Rd1 w.heap.size g gc 528 gt ct W r t) (hc : r.c.length = 528) (x : Tok) (r' : Rdr) (hx : tokR t r = some (x, r')) => readTok_some w.heap.size g gc 528 gt ct r t W k ht hl (by omega) x r' hx
  have hRn := fun (g gc gt ct : Nat) (r : Rdr) (W : World) (k : Rd1 w.heap.size g gc 528 gt ct W r t) (hc : r.c.length = 528) (hx : tokR t r = none) => readTok_none w.heap.size g gc 528 gt ct r t W k ht hl (by omega) hx
  generalize startR 528 t = r0 at *
  replace hN := hide hN; replace hRs := hide hRs; replace hRn := hide hRn; replace hok := hide hok; replace hus := hide hus; replace hlc := hide hlc
  clear hv h
  go_enter Try.func31, Try.ntmps31
  go_wp2_with (first
    | (go_at_call 54; refine (unhide hN).mono ?_; rintro e w1 ⟨g, gc, gt, ct, rfl, R1, hgb, hb1⟩)
    | fail)
  have hR1 := hide (Rd1.mk R1 (unhide hok) (unhide hus))
  replace hgb := hide hgb; replace hb1 := hide hb1
  clear R1
  go_loopw [8, 9] (fun s8 s9 wr => ∃ (f k c' : Nat) (told : Int) (r1 : Rdr) (acc : List Tok) (A' : Option Addr), s8 = .slice A' k c' ∧ s9 = .int .i64 told ∧ 0 ≤ told ∧ told ≤ n + 18 ∧ n ≤ told + f ∧ (k : Int) ≤ told ∧ Hid (k = acc.length) ∧ Hid (toksR t n n.toNat 0 r0 [] = toksR t n f told r1 acc) ∧ Hid (Rd1 w.heap.size g gc 528 gt ct wr r1 t) ∧ Hid (r1.c.length = 528) ∧ Hid (wr.ownsRow w.heap.size 40 3 (.slice A' k c') k (acc.flatMap M.tkv)) ∧ Hid (Below w.heap.size w wr)) (fun _ s9 _ => 65536 + 18 - (intOf s9).toNat)
  case atStart => exact ⟨n.toNat, 0, 0, 0, r0, [], none, rfl, rfl, by omega, by omega, by omega, by omega, hide rfl, hide rfl, hR1, hlc, hide (World.ownsRow_nil _ _ _ _), hb1⟩
  case round =>
    obtain ⟨f, k, c', told, r1, acc, A', rfl, rfl, ht0, ht1, hf, hk, hkl, hq, hR, hc, ho, hB⟩ := hrel
    by_cases hlt : told < n
    · obtain ⟨f', rfl⟩ : ∃ f', f = f' + 1 := ⟨f - 1, by omega⟩
      cases hx : tokR t r1 with
      | none =>
        have hA := unhide hRn g gc gt ct r1 wr (unhide hR) (unhide hc) hx
        have hq2 := (unhide hq).trans (toksR_none hlt hx)
        have hgs : ∀ k ∈ [g, gc], w.heap.size ≤ k := by
          have := (unhide hR).rd.base (by rw [unhide hc]; omega)
          have := unhide hgb
          simp; omega
        replace hA := hide hA; replace hq2 := hide hq2; replace hgs := hide hgs
        clear hq hx
        go_wp2_with (first
          | (go_at_call 55; refine (unhide hA).mono ?_; rintro e w2 ⟨er, he, rfl, hb2⟩)
          | fail)
        go_ret2
        exact ⟨.inr ⟨unhide hq2, rfl⟩, ((unhide hB).trans (hb2.below (unhide hgs) (unhide hB).size)).alloc (Nat.le_trans (unhide hB).size hb2.size) _⟩
      | some x =>
        obtain ⟨x, r2⟩ := x
        have hA := unhide hRs g gc gt ct r1 wr (unhide hR) (unhide hc) x r2 hx
        have hq2 := (unhide hq).trans (toksR_step hlt hx)
        have hokx := tokR_ok hx
        have hcx := (tokR_c hx).trans (unhide hc)
        have hsz := okT_size hokx
        have hmx := size_max hokx
        simp only [] at hokx hcx hsz hmx
        have hgs : ∀ k ∈ [g, gc], w.heap.size ≤ k := by
          have := (unhide hR).rd.base (by rw [unhide hc]; omega)
          have := unhide hgb
          simp; omega
        have hnot := (unhide hR).not40 (by rw [unhide hc]; omega)
        have hto := M.tkv_one x
        have hfl := M.flat_snoc acc x
        have u1 : k + 1 ≤ maxLen := by simp only [maxLen]; omega
        have u2 : (k + 1) * 24 ≤ 140737488355328 := by omega
        have hkk : k + 1 = (acc ++ [x]).length := by rw [List.length_append, unhide hkl]; rfl
        obtain ⟨S, hS⟩ : ∃ S, S = sizeT x := ⟨_, rfl⟩
        rw [← hS] at hq2 hsz hmx
        obtain ⟨xl, xn, xd⟩ := x
        unfold tkV at hA
        simp only [] at hA hmx
        replace hA := hide hA; replace hq2 := hide hq2; replace hgs := hide hgs; replace hnot := hide hnot; replace hto := hide hto; replace hfl := hide hfl; replace u1 := hide u1; replace u2 := hide u2; replace hcx := hide hcx; replace hkk := hide hkk; replace hkl := hide hkl; replace hc := hide hc
        clear hq hx hS hokx hc
        go_wp2_with (first
          | (go_at_call 55; refine (unhide hA).mono ?_; rintro e w2 ⟨rfl, R2, hb2⟩
             have o2 := own_but (unhide ho) hb2 (unhide hnot)
             have B2 := (unhide hB).trans (hb2.below (unhide hgs) (unhide hB).size)
             replace R2 := hide R2; replace o2 := hide o2; replace B2 := hide B2
             clear hb2)
          | (at_builtin
             refine wpList_app _ rfl (.tmp 29) (.tmp 31) 22 rfl w.heap.size 40 i0 _ 3 24 Try.underlying22 hi0 iz0 iz1 iz2 rfl (Nat.succ_pos _) _ k (acc.flatMap M.tkv) rfl (((unhide o2).alloc _).alloc _) (some ⟨w2.heap.size + 1, 0, none⟩) 1 1 (M.tkv ⟨xl, xn, xd⟩) rfl rfl (M.tk_src (t := ⟨xl, xn, xd⟩) (Blk.new (by simp))) (unhide hto) (unhide u1) (unhide u2) (by have := (unhide B2).size; simp; omega) ?_
             intro v3 w3 o3 hg3
             obtain ⟨A3, c3, rfl⟩ := ownsRow_form o3
             rw [unhide hfl] at o3
             have N3 : Blk w3 w2.heap.size 40 #[.int .u8 (M.n8 xl), .int .i64 xn, .int .i64 xd] := Blk.grown ((Blk.new rfl).alloc _) hg3 (M.vb_ne (own_vbelow (unhide o2)) (Nat.le_refl _))
             have q1 := N3.cell 1
             simp at q1
             have y1 := N3.lt
             have R3 := (((unhide R2).alloc _).alloc _).grownN (((unhide o2).alloc _).alloc _) hg3
             have B3 := ((((unhide B2).alloc (unhide B2).size _).alloc (by have := (unhide B2).size; simp; omega) _)).grown hg3 (by have := (unhide B2).size; simp; omega) (own_base (unhide o2))
             replace R3 := hide R3; replace B3 := hide B3; replace o3 := hide o3; replace N3 := hide N3)
          | fail)
        go_roundw
        case rel => exact ⟨f', k + 1, c3, told + S, r2, acc ++ [⟨xl, xn, xd⟩], A3, rfl, by go_num, by omega, by omega, by omega, by omega, hkk, hq2, R3, hcx, o3, B3⟩
        case measure => simp [intOf]; omega
    · have hq2 := (unhide hq).trans (toksR_end hlt)
      have hz := (unhide hR).rd.blk.cell 3
      simp at hz
      have hU := Used_any g r1.used wr hz
      have hB0 := hB
      replace hU := hide hU; replace hq2 := hide hq2
      clear hq hz
      go_wp2_with (first
        | (go_at_call 56; refine (unhide hU).mono ?_; rintro e w2 ⟨rfl, rfl⟩)
        | fail)
      go_ret2
      have hk2 := unhide hkl
      subst hk2
      exact ⟨.inl ⟨_, _, acc, r1, unhide hq2, by rw [nat_beq]; rfl, unhide ho⟩, unhide hB⟩

theorem readAll_some (lo : Nat) (v : Value) (t : List Int) (n : Int) (l : List Tok) (r' : Rdr) (hx : toksR t n n.toNat 0 (startR 528 t) [] = some (l, r')) (w : World) (hv : Os lo w.heap.size w v t) (ht : okB t) (hl : t.length ≤ 1000000) (h : startE 528 t = 0) (hn0 : 0 ≤ n) (hn : n ≤ 65536) :
    Calls Try.prog 31 #[v, .int .i64 n] w fun e w' => ∃ A c, e = .returned (.tuple #[.slice A l.length c, .bool (decide (r'.used = t.length))]) ∧ w'.ownsRow w.heap.size 40 3 (.slice A l.length c) l.length (l.flatMap M.tkv) ∧ Below w.heap.size w w' :=
  (readAll_good lo v t n w hv ht hl h hn0 hn).mono fun e w' ⟨ho, hb⟩ => by
    rcases ho with ⟨A, c, l', r2, h1, h2, h3⟩ | ⟨h1, _⟩
    · rw [hx] at h1
      injection h1 with h1
      injection h1 with e1 e2
      subst e1 e2
      exact ⟨A, c, h2, h3, hb⟩
    · rw [hx] at h1; cases h1
theorem readAll_none (lo : Nat) (v : Value) (t : List Int) (n : Int) (hx : toksR t n n.toNat 0 (startR 528 t) [] = none) (w : World) (hv : Os lo w.heap.size w v t) (ht : okB t) (hl : t.length ≤ 1000000) (h : startE 528 t = 0) (hn0 : 0 ≤ n) (hn : n ≤ 65536) :
    Calls Try.prog 31 #[v, .int .i64 n] w fun e w' => e = .returned (.tuple #[.slice none 0 0, .bool false]) ∧ Below w.heap.size w w' :=
  (readAll_good lo v t n w hv ht hl h hn0 hn).mono fun e w' ⟨ho, hb⟩ => by
    rcases ho with ⟨A, c, l', r2, h1, h2, h3⟩ | ⟨_, h2⟩
    · rw [hx] at h1; cases h1
    · exact ⟨h2, hb⟩
end Go.Proofs.Ytfihgjdppkiolaa
