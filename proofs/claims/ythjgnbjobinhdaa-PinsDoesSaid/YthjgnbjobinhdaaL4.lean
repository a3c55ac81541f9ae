import Derived.Test.YthjgnbjobinhdaaL3
namespace Go.Proofs.Ythjgnbjobinhdaa
open Go.RowKit
set_option maxRecDepth 100000

theorem own_blk {w : World} {base n : Nat} {v : Value} {xs : List Value} (h : w.ownsRow base 35 2 v n xs) : (v = .slice none 0 0 ∧ n = 0) ∨
    ∃ g c cur, v = .slice (some ⟨g, 0, none⟩) n c ∧ base ≤ g ∧ Blk w g 35 cur ∧ n ≤ c ∧ c ≤ maxLen ∧ (∀ (i : Nat) (u : Value), xs[i]? = some u → cur[i]? = some u) ∧ ∀ w', Blk w' g 35 cur → w'.ownsRow base 35 2 v n xs := by
  obtain ⟨h1, h2⟩ := h
  rcases h2 with ⟨e, h0⟩ | ⟨g, cap, cur, e, hb, hg, hnc, hcm, hcs, ht⟩
  · exact .inl ⟨e, h0⟩
  · refine .inr ⟨g, cap, cur, e, hb, hg, hnc, hcm, fun i u hu => ?_, fun w' hw => ⟨h1, .inr ⟨g, cap, cur, e, hb, hw, hnc, hcm, hcs, ht⟩⟩⟩
    rw [← ht, List.getElem?_take] at hu
    split at hu
    · rw [Array.getElem?_toList] at hu; exact hu
    · cases hu
/-! ### rows that are counted up -/
theorem own_lt {w : World} {base c : Nat} {A : Option Addr} {l : List Pn} (h : OwnP w base (.slice A l.length c) l) : ∀ p, A = some p → p.block < w.heap.size := fun p e => own_vbelow h p l.length c (by rw [e])
theorem own_le {w : World} {base : Nat} {v : Value} {l : List Pn} (h : OwnP w base v l) : l.length ≤ 9223372036854775807 := by
  obtain ⟨_, _, _, h1, h2, _⟩ := h.pns.open2
  omega
/-- A row of pins, from block 'lo' on, whose last fields are numbers. -/
def Inc (A : Option Addr) (n lo : Nat) (w : World) : Prop :=
  (∀ p, A = some p → lo ≤ p.block) ∧ (0 < n → ∃ g cur, A = some ⟨g, 0, none⟩ ∧ Blk w g 35 cur ∧ ∀ i, i < n → ∃ z, cur[i * 2 + 1]? = some (.int .i64 z))
theorem inc_of_own {w : World} {base c : Nat} {A : Option Addr} {l : List Pn} (h : OwnP w base (.slice A l.length c) l) : Inc A l.length base w := by
  refine ⟨fun p e => own_base h p.block (by rw [e]; rfl), fun h0 => ?_⟩
  rcases own_blk h with ⟨e, h1⟩ | ⟨g, c', cur, e, h1, h2, h3, h4, h5, h6⟩
  · omega
  · injection e with e1 e2 e3
    refine ⟨g, cur, e1, h2, fun i hi => ⟨(l[i]).n, h5 _ _ ?_⟩⟩
    rw [flat_get pc_len l i hi 1 (by decide)]; rfl
/-- Nothing has turned but a row's block. -/
structure ButA (A : Option Addr) (w w' : World) : Prop where
  os : w'.os = w.os
  tape : w'.tape = w.tape
  output : w'.output = w.output
  size : w.heap.size ≤ w'.heap.size
  block : ∀ k, (∀ p, A = some p → p.block ≠ k) → k < w.heap.size → w'.heap[k]? = w.heap[k]?
theorem ButA.refl (A : Option Addr) (w : World) : ButA A w w := ⟨rfl, rfl, rfl, Nat.le_refl _, fun _ _ _ => rfl⟩
theorem ButA.set {g : Nat} {w w' : World} (h : ButA (some ⟨g, 0, none⟩) w w') (i : Nat) (u : Value) : ButA (some ⟨g, 0, none⟩) w (w'.setCell ⟨g, i, none⟩ u) :=
  ⟨h.os, h.tape, h.output, by simpa [World.setCell] using h.size, fun k hk hl => (Below.heap_setCell w' ⟨g, i, none⟩ u k (fun e => hk _ rfl e.symm)).trans (h.block k hk hl)⟩
theorem ButA.below {A : Option Addr} {B : Nat} {w w' : World} (h : ButA A w w') (hA : ∀ p, A = some p → B ≤ p.block) (hw : B ≤ w.heap.size) : Below B w w' :=
  ⟨h.os, h.tape, h.output, h.size, fun k hk => h.block k (fun p e hp => by have := hA p e; omega) (by omega)⟩
theorem Inc.but {A Ax : Option Addr} {n lo : Nat} {w w' : World} (h : Inc Ax n lo w) (h' : ButA A w w') (hA : ∀ p, A = some p → p.block < lo) : Inc Ax n lo w' := by
  refine ⟨h.1, fun h0 => ?_⟩
  obtain ⟨g, cur, rfl, hq, hz⟩ := h.2 h0
  refine ⟨g, cur, rfl, ?_, hz⟩
  have h1 := h.1 _ rfl
  exact (h'.block g (fun p e hp => by have := hA p e; have h1 : lo ≤ g := h1; omega) hq.lt).trans hq
theorem Inc.set {g n lo i : Nat} {w : World} (h : Inc (some ⟨g, 0, none⟩) n lo w) (_ : i < n) (z : Int) : Inc (some ⟨g, 0, none⟩) n lo (w.setCell ⟨g, i * 2 + 1, none⟩ (.int .i64 z)) := by
  refine ⟨h.1, fun h0 => ?_⟩
  obtain ⟨g', cur, e, hq, hz⟩ := h.2 h0
  injection e with e
  injection e with e1 e2
  subst e1
  refine ⟨g, _, rfl, hq.set _ _, fun j hj => ?_⟩
  obtain ⟨y, hy⟩ := hz j hj
  rw [Array.getElem?_setIfInBounds]
  by_cases e : i * 2 + 1 = j * 2 + 1
  · rw [if_pos e]
    have : j * 2 + 1 < cur.size := (Array.getElem?_eq_some_iff.1 hy).1
    rw [if_pos (by omega)]
    exact ⟨z, rfl⟩
  · rw [if_neg e]; exact ⟨y, hy⟩

set_option maxHeartbeats 8000000 in
theorem PinsDoes_any (v v' : Value) (l o : List Pn) (g : Int) (w : World) (h : Pns 0 w.heap.size w v l) (h' : Pns 0 w.heap.size w v' o) (hs : SmL l) :
    Calls Try.prog 3 #[v, v', .int .u64 g] w fun e w' => e = .returned (.bool true) ∧ Below w.heap.size w w' := by
  have hL := fun W => live_any W
  have hB : Below w.heap.size w w := Below.refl _ _
  have hl := h
  have ho := h'
  have h0 := h
  obtain ⟨A, c, rfl, h1, h2, h3⟩ := h
  clear h3
  obtain ⟨A', c', rfl, h1', h2', h3⟩ := h'
  clear h3
  replace hL := hide hL; replace hB := hide hB; replace hl := hide hl; replace ho := hide ho
  by_cases h70 : 70 < l.length
  · have d1 : (70 : Int) < (l.length : Int) := by omega
    clear hs h0
    have tk0 : True := trivial
    go_enter Try.func3, Try.ntmps3
    go_wp2_with (first
      | (have _t := tk0; clear tk0 _t; go_at_call 8; with_reducible refine (unhide hL _).mono ?_; rintro ez wz0 ⟨rfl, bz0⟩; have szz0 := bz0.size; replace hB := hide ((unhide hB).trans (bz0.mono (unhide hB).size)); replace hl := hide ((unhide hl).grow bz0); replace ho := hide ((unhide ho).grow bz0); clear bz0)
      | fail)
    go_ret
    exact ⟨rfl, unhide hB⟩
  by_cases h71 : 70 < o.length
  · have d1 : ¬ (70 : Int) < (l.length : Int) := by omega
    have d2 : (70 : Int) < (o.length : Int) := by omega
    clear hs h0
    have tk0 : True := trivial
    go_enter Try.func3, Try.ntmps3
    go_wp2_with (first
      | (have _t := tk0; clear tk0 _t; go_at_call 8; with_reducible refine (unhide hL _).mono ?_; rintro ez wz0 ⟨rfl, bz0⟩; have szz0 := bz0.size; replace hB := hide ((unhide hB).trans (bz0.mono (unhide hB).size)); replace hl := hide ((unhide hl).grow bz0); replace ho := hide ((unhide ho).grow bz0); clear bz0)
      | fail)
    go_ret
    exact ⟨rfl, unhide hB⟩
  have d1 : ¬ (70 : Int) < (l.length : Int) := by omega
  have d2 : ¬ (70 : Int) < (o.length : Int) := by omega
  obtain ⟨i0, hi0, hz0, hz1, hz2⟩ := info_parts info35
  have hO := fun W (h : Pns 0 W.heap.size W (.slice A l.length c) l) => Open_any 0 W.heap.size _ l g W h (Nat.le_refl _) hs
  have hOr := fun W (h : Pns 0 W.heap.size W (.slice A l.length c) l) => rOpen_any 0 W.heap.size _ l g W h (Nat.le_refl _) hs
  have hC0 := fun W (h : Pns 0 W.heap.size W (.slice A l.length c) l) => Close_any 0 W.heap.size _ l g W h (Nat.le_refl _) hs
  have hCr := fun W (h : Pns 0 W.heap.size W (.slice A l.length c) l) => rClose_any 0 W.heap.size _ l g W h (Nat.le_refl _) hs
  have hM := fun W (h : Pns 0 W.heap.size W (.slice A l.length c) l) => Many_any 0 W.heap.size _ l g W h (Nat.le_refl _) hs
  have hMr := fun W (h : Pns 0 W.heap.size W (.slice A l.length c) l) => rmany_any 0 W.heap.size _ l g W h (Nat.le_refl _) hs
  have hE := fun W (h : Pns 0 W.heap.size W (.slice A l.length c) l) => Least_any 0 W.heap.size _ l W h (Nat.le_refl _) hs
  have hEr := fun W (h : Pns 0 W.heap.size W (.slice A l.length c) l) => rleast_any 0 W.heap.size _ l W h (Nat.le_refl _) hs
  have hK := fun W (h : Pns 0 W.heap.size W (.slice A l.length c) l) => check_any 0 W.heap.size _ l W h (Nat.le_refl _) hs
  have hKr := fun W (h : Pns 0 W.heap.size W (.slice A l.length c) l) => rcheck_any 0 W.heap.size _ l W h (Nat.le_refl _) hs
  have hS := fun W (h : Pns 0 W.heap.size W (.slice A l.length c) l) (h' : Pns 0 W.heap.size W (.slice A' o.length c') o) => Same_any 0 W.heap.size 0 W.heap.size _ _ l o W h h' (Nat.le_refl _) (Nat.le_refl _)
  have hSr := fun W (h : Pns 0 W.heap.size W (.slice A l.length c) l) (h' : Pns 0 W.heap.size W (.slice A' o.length c') o) => same17_any 0 W.heap.size 0 W.heap.size _ _ l o W h h' (Nat.le_refl _) (Nat.le_refl _)
  have hSs := fun W v v' (q : List Pn) (h : Pns 0 W.heap.size W v q) (h' : Pns 0 W.heap.size W v' q) => same17_any 0 W.heap.size 0 W.heap.size v v' q q W h h' (Nat.le_refl _) (Nat.le_refl _)
  replace hSs := fun W v v' q h h' => (same_self q) ▸ hSs W v v' q h h'
  have n0 : (l.flatMap pc).length = l.length * 2 := flat_len pc_len l
  generalize openL l g = a at *
  generalize openE l g = ea at *
  generalize closeL l g = x at *
  generalize closeE l g = ex at *
  generalize manyN l g = nn at *
  generalize manyE l g = ne at *
  generalize leastG l = lg at *
  generalize leastE l = le at *
  generalize checkE l = ck at *
  generalize sameB l o = sm at *
  clear hs h2 h2' h1' h71
  obtain ⟨n, hn⟩ : ∃ n, n = l.length := ⟨_, rfl⟩
  rw [← hn] at h70 hl h0 h1 n0 hO hOr hC0 hCr hM hMr hE hEr hK hKr hS hSr d1 ⊢
  generalize o.length = no at *
  have u1 : 0 + n ≤ maxLen := by simp only [maxLen]; omega
  have u2 : (0 + n) * 16 ≤ 140737488355328 := by omega
  clear h70
  replace hn := hide hn; replace n0 := hide n0; replace u1 := hide u1; replace u2 := hide u2; replace h1 := hide h1
  replace hO := hide hO; replace hOr := hide hOr; replace hC0 := hide hC0; replace hCr := hide hCr; replace hM := hide hM; replace hMr := hide hMr; replace hE := hide hE; replace hEr := hide hEr; replace hK := hide hK; replace hKr := hide hKr; replace hS := hide hS; replace hSr := hide hSr; replace hSs := hide hSs
  have tk0 : True := trivial
  have tk1 : True := trivial
  have tk2 : True := trivial
  have tk3 : True := trivial
  have tk4 : True := trivial
  have tk5 : True := trivial
  have tk6 : True := trivial
  have tk7 : True := trivial
  have tk8 : True := trivial
  have tk9 : True := trivial
  have tk10 : True := trivial
  have tk11 : True := trivial
  have tk12 : True := trivial
  have tk13 : True := trivial
  have tk14 : True := trivial
  have tk15 : True := trivial
  go_enter Try.func3, Try.ntmps3
  go_wp2_with (first
    | (have _t := tk0; clear tk0 _t; go_at_call 8; with_reducible refine (unhide hL _).mono ?_; rintro ez wz0 ⟨rfl, bz0⟩; have szz0 := bz0.size; replace hB := hide ((unhide hB).trans (bz0.mono (unhide hB).size)); replace hl := hide ((unhide hl).grow bz0); replace ho := hide ((unhide ho).grow bz0); clear bz0)
    | (at_builtin
       refine wpList_app _ rfl (.const (.slice none 0 0)) (.tmp 38) 22 rfl wz0.heap.size 35 i0 _ 2 16 Try.underlying22 hi0 hz0 hz1 hz2 rfl (Nat.succ_pos _) _ 0 [] rfl (World.ownsRow_nil _ _ _ _) A n c (l.flatMap pc) rfl (unhide n0) (Rd.src pc_len (unhide hl)).2 (flat_one pc_one l) (unhide u1) (unhide u2) (Nat.le_refl _) ?_
       intro v5 ww ow hg5
       rw [Nat.zero_add, List.nil_append] at ow
       obtain ⟨Aw, cw, rfl⟩ := ownsRow_form ow
       have bz1 : Below wz0.heap.size wz0 ww := (Below.refl _ _).grown hg5 (Nat.le_refl _) (by intro k hk; cases hk)
       have hw0 := hide (show Pns 0 ww.heap.size ww (.slice Aw n cw) l from by
         have q : OwnP ww wz0.heap.size (.slice Aw l.length cw) l := by rw [← unhide hn]; unfold OwnP; rw [← unhide hn]; exact ow
         have := q.all
         rwa [← unhide hn] at this)
       have hw := hw0
       have szz1 := bz1.size
       have hC := hide (Below.refl ww.heap.size ww)
       clear hg5 ow
       replace hB := hide ((unhide hB).trans (bz1.mono (unhide hB).size))
       replace hl := hide ((unhide hl).grow bz1)
       replace ho := hide ((unhide ho).grow bz1)
       clear bz1)
    | (have _t := tk2; clear tk2 _t; go_at_call 9; with_reducible refine (unhide hO _ (unhide hl)).mono ?_; rintro ez wz2 ⟨va, rfl, ooa, bz2⟩; have szz2 := bz2.size; replace hB := hide ((unhide hB).trans (bz2.mono (unhide hB).size)); replace hl := hide ((unhide hl).grow bz2); replace ho := hide ((unhide ho).grow bz2); replace hC := hide ((unhide hC).trans (bz2.mono (unhide hC).size)); replace hw := hide ((unhide hw).grow bz2); obtain ⟨Aa, ca, rfl⟩ := own_form ooa; (have bdoa : Hid (∀ p, Aa = some p → p.block < wz2.heap.size) := hide (own_lt ooa)); have oa := hide ooa; clear ooa; clear bz2)
    | (have _t := tk3; clear tk3 _t; go_at_call 10; with_reducible refine (unhide hOr _ (unhide hl)).mono ?_; rintro ez wz3 ⟨vb, rfl, ohb, bz3⟩; have szz3 := bz3.size; replace hB := hide ((unhide hB).trans (bz3.mono (unhide hB).size)); replace hl := hide ((unhide hl).grow bz3); replace ho := hide ((unhide ho).grow bz3); replace hC := hide ((unhide hC).trans (bz3.mono (unhide hC).size)); replace hw := hide ((unhide hw).grow bz3); replace oa := hide (own_keep (unhide oa) bz3); (have hb := hide (ohb.all)); clear ohb; clear bz3)
    | (have _t := tk4; clear tk4 _t; go_at_call 11; with_reducible refine (unhide hC0 _ (unhide hl)).mono ?_; rintro ez wz4 ⟨vx, rfl, oox, bz4⟩; have szz4 := bz4.size; replace hB := hide ((unhide hB).trans (bz4.mono (unhide hB).size)); replace hl := hide ((unhide hl).grow bz4); replace ho := hide ((unhide ho).grow bz4); replace hC := hide ((unhide hC).trans (bz4.mono (unhide hC).size)); replace hw := hide ((unhide hw).grow bz4); replace oa := hide (own_keep (unhide oa) bz4); replace hb := hide ((unhide hb).grow bz4); obtain ⟨Ax, cx, rfl⟩ := own_form oox; (have bdox : Hid (∀ p, Ax = some p → p.block < wz4.heap.size) := hide (own_lt oox)); have ox := hide oox; clear oox; clear bz4)
    | (have _t := tk5; clear tk5 _t; go_at_call 12; with_reducible refine (unhide hCr _ (unhide hl)).mono ?_; rintro ez wz5 ⟨vy, rfl, ohy, bz5⟩; have szz5 := bz5.size; replace hB := hide ((unhide hB).trans (bz5.mono (unhide hB).size)); replace hl := hide ((unhide hl).grow bz5); replace ho := hide ((unhide ho).grow bz5); replace hC := hide ((unhide hC).trans (bz5.mono (unhide hC).size)); replace hw := hide ((unhide hw).grow bz5); replace oa := hide (own_keep (unhide oa) bz5); replace hb := hide ((unhide hb).grow bz5); replace ox := hide (own_keep (unhide ox) bz5); (have hy := hide (ohy.all)); clear ohy; clear bz5)
    | (have _t := tk6; clear tk6 _t; go_at_call 13; with_reducible refine (unhide hM _ (unhide hl)).mono ?_; rintro ez wz6 ⟨rfl, bz6⟩; have szz6 := bz6.size; replace hB := hide ((unhide hB).trans (bz6.mono (unhide hB).size)); replace hl := hide ((unhide hl).grow bz6); replace ho := hide ((unhide ho).grow bz6); replace hC := hide ((unhide hC).trans (bz6.mono (unhide hC).size)); replace hw := hide ((unhide hw).grow bz6); replace oa := hide (own_keep (unhide oa) bz6); replace hb := hide ((unhide hb).grow bz6); replace ox := hide (own_keep (unhide ox) bz6); replace hy := hide ((unhide hy).grow bz6); clear bz6)
    | (have _t := tk7; clear tk7 _t; go_at_call 14; with_reducible refine (unhide hMr _ (unhide hl)).mono ?_; rintro ez wz7 ⟨rfl, bz7⟩; have szz7 := bz7.size; replace hB := hide ((unhide hB).trans (bz7.mono (unhide hB).size)); replace hl := hide ((unhide hl).grow bz7); replace ho := hide ((unhide ho).grow bz7); replace hC := hide ((unhide hC).trans (bz7.mono (unhide hC).size)); replace hw := hide ((unhide hw).grow bz7); replace oa := hide (own_keep (unhide oa) bz7); replace hb := hide ((unhide hb).grow bz7); replace ox := hide (own_keep (unhide ox) bz7); replace hy := hide ((unhide hy).grow bz7); clear bz7)
    | (have _t := tk8; clear tk8 _t; go_at_call 15; with_reducible refine (unhide hE _ (unhide hl)).mono ?_; rintro ez wz8 ⟨rfl, bz8⟩; have szz8 := bz8.size; replace hB := hide ((unhide hB).trans (bz8.mono (unhide hB).size)); replace hl := hide ((unhide hl).grow bz8); replace ho := hide ((unhide ho).grow bz8); replace hC := hide ((unhide hC).trans (bz8.mono (unhide hC).size)); replace hw := hide ((unhide hw).grow bz8); replace oa := hide (own_keep (unhide oa) bz8); replace hb := hide ((unhide hb).grow bz8); replace ox := hide (own_keep (unhide ox) bz8); replace hy := hide ((unhide hy).grow bz8); clear bz8)
    | (have _t := tk9; clear tk9 _t; go_at_call 16; with_reducible refine (unhide hEr _ (unhide hl)).mono ?_; rintro ez wz9 ⟨rfl, bz9⟩; have szz9 := bz9.size; replace hB := hide ((unhide hB).trans (bz9.mono (unhide hB).size)); replace hl := hide ((unhide hl).grow bz9); replace ho := hide ((unhide ho).grow bz9); replace hC := hide ((unhide hC).trans (bz9.mono (unhide hC).size)); replace hw := hide ((unhide hw).grow bz9); replace oa := hide (own_keep (unhide oa) bz9); replace hb := hide ((unhide hb).grow bz9); replace ox := hide (own_keep (unhide ox) bz9); replace hy := hide ((unhide hy).grow bz9); clear bz9)
    | (have _t := tk10; clear tk10 _t; go_at_call 17; with_reducible refine (unhide hSs _ _ _ _ (unhide oa).all (unhide hb)).mono ?_; rintro ez wz10 ⟨rfl, bz10⟩; have szz10 := bz10.size; replace hB := hide ((unhide hB).trans (bz10.mono (unhide hB).size)); replace hl := hide ((unhide hl).grow bz10); replace ho := hide ((unhide ho).grow bz10); replace hC := hide ((unhide hC).trans (bz10.mono (unhide hC).size)); replace hw := hide ((unhide hw).grow bz10); replace oa := hide (own_keep (unhide oa) bz10); replace hb := hide ((unhide hb).grow bz10); replace ox := hide (own_keep (unhide ox) bz10); replace hy := hide ((unhide hy).grow bz10); clear bz10)
    | (have _t := tk11; clear tk11 _t; go_at_call 17; with_reducible refine (unhide hSs _ _ _ _ (unhide ox).all (unhide hy)).mono ?_; rintro ez wz11 ⟨rfl, bz11⟩; have szz11 := bz11.size; replace hB := hide ((unhide hB).trans (bz11.mono (unhide hB).size)); replace hl := hide ((unhide hl).grow bz11); replace ho := hide ((unhide ho).grow bz11); replace hC := hide ((unhide hC).trans (bz11.mono (unhide hC).size)); replace hw := hide ((unhide hw).grow bz11); replace oa := hide (own_keep (unhide oa) bz11); replace hb := hide ((unhide hb).grow bz11); replace ox := hide (own_keep (unhide ox) bz11); replace hy := hide ((unhide hy).grow bz11); clear bz11)
    | (have _t := tk12; clear tk12 _t; go_at_call 18; with_reducible refine (unhide hK _ (unhide hl)).mono ?_; rintro ez wz12 ⟨rfl, bz12⟩; have szz12 := bz12.size; replace hB := hide ((unhide hB).trans (bz12.mono (unhide hB).size)); replace hl := hide ((unhide hl).grow bz12); replace ho := hide ((unhide ho).grow bz12); replace hC := hide ((unhide hC).trans (bz12.mono (unhide hC).size)); replace hw := hide ((unhide hw).grow bz12); replace oa := hide (own_keep (unhide oa) bz12); replace hb := hide ((unhide hb).grow bz12); replace ox := hide (own_keep (unhide ox) bz12); replace hy := hide ((unhide hy).grow bz12); clear bz12)
    | (have _t := tk13; clear tk13 _t; go_at_call 19; with_reducible refine (unhide hKr _ (unhide hl)).mono ?_; rintro ez wz13 ⟨rfl, bz13⟩; have szz13 := bz13.size; replace hB := hide ((unhide hB).trans (bz13.mono (unhide hB).size)); replace hl := hide ((unhide hl).grow bz13); replace ho := hide ((unhide ho).grow bz13); replace hC := hide ((unhide hC).trans (bz13.mono (unhide hC).size)); replace hw := hide ((unhide hw).grow bz13); replace oa := hide (own_keep (unhide oa) bz13); replace hb := hide ((unhide hb).grow bz13); replace ox := hide (own_keep (unhide ox) bz13); replace hy := hide ((unhide hy).grow bz13); clear bz13)
    | (have _t := tk14; clear tk14 _t; go_at_call 20; with_reducible refine (unhide hS _ (unhide hl) (unhide ho)).mono ?_; rintro ez wz14 ⟨rfl, bz14⟩; have szz14 := bz14.size; replace hB := hide ((unhide hB).trans (bz14.mono (unhide hB).size)); replace hl := hide ((unhide hl).grow bz14); replace ho := hide ((unhide ho).grow bz14); replace hC := hide ((unhide hC).trans (bz14.mono (unhide hC).size)); replace hw := hide ((unhide hw).grow bz14); replace oa := hide (own_keep (unhide oa) bz14); replace hb := hide ((unhide hb).grow bz14); replace ox := hide (own_keep (unhide ox) bz14); replace hy := hide ((unhide hy).grow bz14); clear bz14)
    | (have _t := tk15; clear tk15 _t; go_at_call 17; with_reducible refine (unhide hSr _ (unhide hl) (unhide ho)).mono ?_; rintro ez wz15 ⟨rfl, bz15⟩; have szz15 := bz15.size; replace hB := hide ((unhide hB).trans (bz15.mono (unhide hB).size)); replace hl := hide ((unhide hl).grow bz15); replace ho := hide ((unhide ho).grow bz15); replace hC := hide ((unhide hC).trans (bz15.mono (unhide hC).size)); replace hw := hide ((unhide hw).grow bz15); replace oa := hide (own_keep (unhide oa) bz15); replace hb := hide ((unhide hb).grow bz15); replace ox := hide (own_keep (unhide ox) bz15); replace hy := hide ((unhide hy).grow bz15); clear bz15)
    | fail)
  have hIa := hide (inc_of_own (unhide oa))
  have hIx := hide (inc_of_own (unhide ox))
  have la := own_le (unhide oa)
  have lx := own_le (unhide ox)
  clear oa ox hb hy hl hw ho
  generalize a.length = na at *
  generalize x.length = nx at *
  go_loopw [142] (fun i wr => ∃ k : Nat, k ≤ na ∧ i = .int .i64 k ∧ Hid (Inc Aa na ww.heap.size wr) ∧ Hid (ButA Aa wz15 wr)) (fun i _ => na - (intOf i).toNat)
  case atStart => exact ⟨0, Nat.zero_le _, rfl, hIa, hide (ButA.refl _ _)⟩
  case round =>
    obtain ⟨k, hk, rfl, hI2, hU⟩ := hrel
    by_cases hlt : k < na
    · obtain ⟨g, cur, rfl, hq, hz⟩ := (unhide hI2).2 (by omega)
      obtain ⟨z, hz'⟩ := hz k hlt
      have c5 := (hq.cell (k * 2 + 1)).trans hz'
      have fz := hq.frozen (k * 2 + 1)
      clear hq hz hz'
      go_wp2_with (fail)
      go_roundw
      case rel => exact ⟨k + 1, by omega, by go_num, hide ((unhide hI2).set hlt _), hide ((unhide hU).set _ _)⟩
      case measure => simp [intOf] <;> omega
    · obtain rfl : k = na := by omega
      have q := (unhide hU).below (unhide hI2).1 (by omega)
      replace hB := hide ((unhide hB).trans (q.mono (by omega)))
      replace hC := hide ((unhide hC).trans (q.mono (by omega)))
      have hIx2 := hide ((unhide hIx).but (unhide hU) (fun p e => by have := unhide bdoa p e; omega))
      have szq := (unhide hU).size
      clear q hI2 hU hIx
      generalize wr = W9 at *
      go_wp2_with (fail)
      go_loopw [156] (fun i wr => ∃ k : Nat, k ≤ nx ∧ i = .int .i64 k ∧ Hid (Inc Ax nx wz3.heap.size wr) ∧ Hid (ButA Ax W9 wr)) (fun i _ => nx - (intOf i).toNat)
      case atStart => exact ⟨0, Nat.zero_le _, rfl, hIx2, hide (ButA.refl _ _)⟩
      case round =>
        obtain ⟨k, hk, rfl, hI2, hU⟩ := hrel
        by_cases hlt : k < nx
        · obtain ⟨g, cur, rfl, hq, hz⟩ := (unhide hI2).2 (by omega)
          obtain ⟨z, hz'⟩ := hz k hlt
          have c5 := (hq.cell (k * 2 + 1)).trans hz'
          have fz := hq.frozen (k * 2 + 1)
          clear hq hz hz'
          go_wp2_with (fail)
          go_roundw
          case rel => exact ⟨k + 1, by omega, by go_num, hide ((unhide hI2).set hlt _), hide ((unhide hU).set _ _)⟩
          case measure => simp [intOf] <;> omega
        · obtain rfl : k = nx := by omega
          have q := (unhide hU).below (unhide hI2).1 (by omega)
          replace hB := hide ((unhide hB).trans (q.mono (by omega)))
          replace hC := hide ((unhide hC).trans (q.mono (by omega)))
          clear q hI2 hU
          have hl := hide ((h0.below (unhide hB) (Nat.le_refl _)).mono (Nat.le_refl _) (unhide hB).size)
          have hw := hide (((unhide hw0).below (unhide hC) (Nat.le_refl _)).mono (Nat.le_refl _) (unhide hC).size)
          have tk0 : True := trivial
          go_wp2_with (first
            | (have _t := tk0; clear tk0 _t; go_at_call 17; with_reducible refine (unhide hSs _ _ _ _ (unhide hl) (unhide hw)).mono ?_; rintro ez wz0 ⟨rfl, bz0⟩; have szz0 := bz0.size; replace hB := hide ((unhide hB).trans (bz0.mono (unhide hB).size)); clear bz0)
            | fail)
          go_ret
          exact ⟨rfl, unhide hB⟩
end Go.Proofs.Ythjgnbjobinhdaa
