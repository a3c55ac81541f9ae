import Derived.Test.YtkgfmiicfegnlaaT10
namespace Go.Proofs.Ytkgfmiicfegnlaa
open Go.RowKit
attribute [local go_sem] bz_size bz_toList run_store_float
set_option maxRecDepth 100000

/-- A row of the call's own: nothing, or a block that is known whole. -/
theorem own_blk {w : World} {base n : Nat} {v : Value} {xs : List Value} (h : w.ownsRow base 26 6 v n xs) : (v = .slice none 0 0 ∧ n = 0) ∨
    ∃ g c cur, v = .slice (some ⟨g, 0, none⟩) n c ∧ base ≤ g ∧ Blk w g 26 cur ∧ n ≤ c ∧ c ≤ maxLen ∧ (∀ (i : Nat) (u : Value), xs[i]? = some u → cur[i]? = some u) ∧ ∀ w', Blk w' g 26 cur → w'.ownsRow base 26 6 v n xs := by
  obtain ⟨h1, h2⟩ := h
  rcases h2 with ⟨e, h0⟩ | ⟨g, cap, cur, e, hb, hg, hnc, hcm, hcs, ht⟩
  · exact .inl ⟨e, h0⟩
  · refine .inr ⟨g, cap, cur, e, hb, hg, hnc, hcm, fun i u hu => ?_, fun w' hw => ⟨h1, .inr ⟨g, cap, cur, e, hb, hw, hnc, hcm, hcs, ht⟩⟩⟩
    rw [← ht, List.getElem?_take] at hu
    split at hu
    · rw [Array.getElem?_toList] at hu; exact hu
    · cases hu
/-- Where a file of a row lies. -/
theorem row_six {cur : Array Value} {l : List Fl} (h : ∀ (i : Nat) (u : Value), (l.flatMap fc)[i]? = some u → cur[i]? = some u) {k : Nat} (hk : k < l.length) : ∀ (j : Nat) (u : Value), (fc (nth l k))[j]? = some u → cur[k * 6 + j]? = some u := fun j u hu => by
  have hj : j < 6 := by rw [← fc_len (nth l k)]; exact (List.getElem?_eq_some_iff.1 hu).1
  refine h _ u ?_
  rw [flat_get fc_len l k hk j hj, ← nth_get hk, hu]

set_option maxHeartbeats 2000000 in
theorem together_any (lo g0 : Nat) (Ls : List (List Fl)) (w : World) (h : Lists lo w g0 Ls) (hg : g0 < w.heap.size) (hn : Ls.length ≤ 1000) (hL : upto Ls Ls.length ≤ 1000000) (hs : ∀ f ∈ cat Ls Ls.length, f.nm.length ≤ 1000) :
    Calls Try.prog 51 #[.slice (some ⟨g0, 0, none⟩) Ls.length Ls.length] w fun e w' => ∃ v, e = .returned v ∧ OwnF w' w.heap.size v (cat Ls Ls.length) ∧ Below w.heap.size w w' := by
  have hC := concat_any lo g0 Ls w h hg hn hL
  have hun := upto_cat Ls Ls.length
  obtain ⟨l, hl⟩ : ∃ l, l = cat Ls Ls.length := ⟨_, rfl⟩
  rw [← hl] at hC hun hs ⊢
  rw [← hun] at hC hL
  clear h hg hun hl
  generalize Ls.length = m at *
  obtain ⟨n, hn'⟩ : ∃ n, n = l.length := ⟨_, rfl⟩
  unfold OwnF
  rw [← hn'] at hC hL ⊢
  replace hC := hide hC; replace hn' := hide hn'; replace hs := hide hs
  go_enter Try.func51, Try.ntmps51
  go_wp2_with (go_at_call 72; refine (unhide hC).mono ?_; rintro e w1 ⟨A, c, rfl, hown, hb1⟩; replace hown := hide hown; replace hb1 := hide hb1)
  rcases own_blk (unhide hown) with ⟨e, h0⟩ | ⟨g, cp, cur, e, hb, hg, hnc, hcm, hcur, hback⟩
  · injection e with e1 e2 e3
    subst e1 e2 e3
    refine wp_loop_rounds 1 ?_
    rw [rounds_succ]
    go_wp2
    go_ret
    exact ⟨_, rfl, unhide hown, unhide hb1⟩
  · injection e with e1 e2 e3
    subst e1 e3
    clear e2
    have hg' : g < w1.heap.size := hg.lt
    replace hcur := hide hcur; replace hback := hide hback; replace hg := hide hg
    go_loopw [10] (fun i wr => ∃ k : Nat, k ≤ n ∧ i = .int .i64 k ∧ Hid (Blk wr g 26 cur) ∧ Hid (Below w.heap.size w wr)) (fun i _ => n - (intOf i).toNat)
    case atStart => exact ⟨0, Nat.zero_le _, rfl, hg, hb1⟩
    case round =>
      clear hg hb1 hown
      obtain ⟨k, hk, rfl, hg, hB⟩ := hrel
      by_cases hlt : k < n
      · have hkl : k < l.length := by rw [← unhide hn']; exact hlt
        have hc := row_six (unhide hcur) hkl
        have hm := nth_mem hkl
        have hO := fun W => own_any (nth l k) (unhide hs _ hm) W
        obtain ⟨f, hf⟩ : ∃ f, f = nth l k := ⟨_, rfl⟩
        rw [← hf] at hc hO
        have hgr := (unhide hg).lt
        obtain ⟨c0, c1, c2, c3, c4, c5⟩ := six (w := wr) (b := g) (o := k * 6) (f := f) (fun j u hu => by rw [(unhide hg).cell]; exact hc j u hu)
        have hB0 : Hid (∀ x, Below w.heap.size w (wr.alloc x)) := hide (fun x => (unhide hB).alloc (unhide hB).size _)
        replace hO := hide hO; replace hc := hide hc
        clear hf hm hkl
        go_wp2_with (go_at_call 43; refine (unhide hO _).mono ?_; rintro e w2 ⟨rfl, B2⟩; (have q0 : Blk w2 g 26 cur := ((unhide hg).alloc _).below B2 (by simp only [World.size_alloc]; omega)); (have fz := fun i => q0.frozen i); obtain ⟨d0, d1, d2, d3, d4, d5⟩ := six (w := w2) (b := g) (o := k * 6) (f := f) (fun j u hu => by rw [q0.cell]; exact unhide hc j u hu); replace q0 := hide q0)
        rw [setCell_same d0, setCell_same d1, setCell_same d2, setCell_same d3, setCell_same d4, setCell_same d5]
        go_roundw
        case rel => exact ⟨k + 1, by omega, by go_num, q0, hide ((unhide hB0 _).trans (B2.mono (unhide hB0 _).size))⟩
        case measure => simp [intOf]; omega
      · obtain rfl : k = n := by omega
        go_wp2
        go_ret
        exact ⟨_, rfl, unhide hback _ (unhide hg), unhide hB⟩
end Go.Proofs.Ytkgfmiicfegnlaa
