import Derived.Test.YthkccpemgmpadaaGreatDoorU16
namespace Go.Proofs.YthkccpemgmpadaaGreatDoor.P.M
set_option maxRecDepth 100000
open Go.RowKit
theorem Tks.src {lo hi : Nat} {w : World} {A : Option Addr} {n c : Nat} {l : List Tok} (h : Tks lo hi w (.slice A n c) l) : n = l.length ∧ SrcOk w A n (l.flatMap tkv) := by
  obtain ⟨A', c', e, _, _, h3⟩ := h.open
  injection e with e1 e2 e3
  subst e1 e2 e3
  refine ⟨rfl, fun h0 => ?_⟩
  obtain ⟨b, off, rfl, _, _, _⟩ := h3 0 h0
  refine ⟨_, rfl, fun j u hu => ?_⟩
  have hj : j < l.length * 3 := by
    have := (List.getElem?_eq_some_iff.1 hu).1
    rwa [flat_len] at this
  obtain ⟨b', off', e, _, _, c0, c1, c2⟩ := h3 (j / 3) (by omega)
  injection e with e
  injection e with e1 e2
  subst e1 e2
  obtain ⟨d0, d1, d2⟩ := flat_get l (j / 3) (by omega)
  have key : w.cell? ⟨b, off + j, none⟩ = some u := by
    have h3 : j % 3 = 0 ∨ j % 3 = 1 ∨ j % 3 = 2 := by omega
    rcases h3 with h2 | h2 | h2
    · have e : j = j / 3 * 3 := by omega
      rw [← e] at c0 d0
      rw [d0] at hu
      rw [c0, ← hu]
    · have e : j = j / 3 * 3 + 1 := by omega
      rw [Nat.add_assoc, ← e] at c1
      rw [← e] at d1
      rw [d1] at hu
      rw [c1, ← hu]
    · have e : j = j / 3 * 3 + 2 := by omega
      rw [Nat.add_assoc, ← e] at c2
      rw [← e] at d2
      rw [d2] at hu
      rw [c2, ← hu]
  unfold Addr.add
  split
  · rename_i h0; subst h0; exact key
  · exact key
theorem elem22 : Tryz.prog.underlying 29 = some (.slice (Tryz.prog.elem 29)) := by kernel_rfl
theorem size5 : ∀ W, (sizeOf (Tryz.prog.elem 29)).run Tryz.prog W = .ok 1 W := fun W => by kernel_rfl
theorem sliced0 (A : Option Addr) (j c s : Nat) : sliced A 0 j c s = .slice A j c := by
  unfold sliced
  rw [Nat.sub_zero, Nat.sub_zero, Nat.zero_mul]
  have : A.map (·.add 0) = A := by cases A <;> rfl
  rw [this, ite_self]
theorem slice_b (A : Option Addr) (n c : Nat) (J : Int) (j : Nat) (hJ : J = (j : Int)) (hj : j ≤ c) (W : World) :
    (Instr.slice 29 (.slice A n c) none (some (.int .i64 J)) none).run Tryz.prog W = .ok (.slice A j c) W := by
  subst hJ
  rw [run_slice_h (P := Tryz.prog) W 29 A n c elem22 .i64 j (by omega) (by omega), size5, Int.toNat_natCast]
  simp only [Result.andThen]
  rw [sliced0]
theorem Tks.pre {lo hi : Nat} {w : World} {A : Option Addr} {n c : Nat} {l : List Tok} (h : Tks lo hi w (.slice A n c) l) (j : Nat) (hj : j ≤ l.length) : Tks lo hi w (.slice A j c) (l.take j) := by
  obtain ⟨A', c', e, h1, h2, h3⟩ := h.open
  injection e with e1 e2 e3
  subst e1 e2 e3
  have hlen : (l.take j).length = j := by rw [List.length_take]; omega
  rcases Nat.eq_zero_or_pos j with h0 | h0
  · subst h0
    exact ⟨A, c, rfl, by simp, h2, fun h => absurd h (by simp), fun _ _ _ k hk => absurd hk (by simp)⟩
  · obtain ⟨b, off, rfl, q1, q2, _⟩ := h3 0 (by omega)
    have := Tks.make (lo := lo) (hi := hi) (w := w) (l := l.take j) (b := b) (off := off) (c := c) (by omega) h2 q1 q2 fun k hk => by
      rw [hlen] at hk
      obtain ⟨b', off', e, _, _, c0, c1, c2⟩ := h3 k (by omega)
      injection e with e
      injection e with e1 e2
      subst e1 e2
      rw [List.getElem_take]
      exact ⟨c0, c1, c2⟩
    rwa [hlen] at this
theorem Bs.pre {lo hi : Nat} {w : World} {A : Option Addr} {n c : Nat} {l : List UInt8} (h : Bs lo hi w (.slice A n c) l) (j : Nat) (hj : j ≤ l.length) : Bs lo hi w (.slice A j c) (l.take j) := by
  obtain ⟨A', c', e, h1, h2, h3⟩ := h
  injection e with e1 e2 e3
  subst e1 e2 e3
  have hlen : (l.take j).length = j := by rw [List.length_take]; omega
  refine ⟨A, c, by rw [hlen], by omega, h2, fun h0 => ?_⟩
  obtain ⟨b, off, rfl, q1, q2, hc⟩ := h3 (by omega)
  refine ⟨b, off, rfl, q1, q2, fun i hi => ?_⟩
  rw [List.getElem_take]
  exact hc i (by omega)
theorem take_get {l : List UInt8} {n i : Nat} (h : i < n) : (l.take n).getD i 0 = l.getD i 0 := by
  rw [List.getD_eq_getElem?_getD, List.getD_eq_getElem?_getD, List.getElem?_take, if_pos h]
theorem told_iff {l : List UInt8} {a d n : Nat} (hd : 1 ≤ d) (hda : d ≤ a) (hn : a + n ≤ l.length) (h18 : n ≤ 18) : tellN (l.take a) d n = l.take (a + n) ↔ n ≤ alkF l (a - d) a 18 := by
  have hla : (l.take a).length = a := by rw [List.length_take]; omega
  constructor
  · intro h
    refine alkF_ge l (a - d) a 18 n h18 hn fun i hi => ?_
    have := tellN_get (b := l.take a) (d := d) (k := n) (i := a + i) (by omega) (by omega) hd (by omega)
    rw [h, take_get (by omega), take_get (by omega)] at this
    rw [this, show a + i - d = a - d + i by omega]
  · intro h
    exact tellN_again hd hda n hn fun i hi => alkF_same l (a - d) a 18 i (by omega)
theorem step_app {P : Program} {ops : Array Oper} {o : Oper} {a : Act} {w : World} {K : Act → World → Prop} {Q : Exit → Act → World → Prop} {E : Prop} (hgd : o.guard = none) (s x : Operand) (t : TypeId)
    (ho : o.op = .call { callee := .builtin .append, args := #[s, x], argTypes := #[t, t] })
    (base : Nat) (e : TypeId) (i : TypeInfo) (z : Value) (size bytes : Nat) (ht : P.underlying t = some (.slice e)) (hi : P.info? e = some i) (hz : i.zero = some z)
    (hsize : i.size = size) (hby : i.bytes = bytes) (hzs : z.cells.size = size) (hsz : 0 < size)
    (v : Value) (n : Nat) (xs : List Value) (hs : a.eval s = v) (hown : w.ownsRow base e size v n xs)
    (A : Option Addr) (m c : Nat) (news : List Value) (hx : a.eval x = .slice A m c) (hl : news.length = m * size) (hr : SrcOk w A m news) (h1 : ∀ u ∈ news, u.oneCell' = true)
    (h63 : n + m ≤ maxLen) (hbytes : (n + m) * bytes ≤ 140737488355328) (hbase : base ≤ w.heap.size)
    (h : ∀ v' w', w'.ownsRow base e size v' (n + m) (xs ++ news) → w.grownBy w' v.ownBlock → K (a.put o.dst v') w') :
    if Region.wanted o (yielded ops a.tmps) = true then Oper.wp P o a w K Q else E := by
  have hw : Region.wanted o (yielded ops a.tmps) = true := by simp [Region.wanted, hgd]
  rw [if_pos hw]
  exact wp_app w s x t ho base e i z size bytes ht hi hz hsize hby hzs hsz v n xs hs hown A m c news hx hl hr h1 h63 hbytes hbase h
structure Best (l : List UInt8) (a : Nat) (M T : Int) : Prop where
  m0 : 2 ≤ M
  m1 : M ≤ 18
  t0 : 0 ≤ T
  none : T = 0 → M = 2
  some : T ≠ 0 → 3 ≤ M ∧ T ≤ a ∧ T ≤ 256 ∧ a + M ≤ l.length
  most : ∀ d : Nat, 1 ≤ d → d ≤ a → d ≤ 256 → (alkF l (a - d) a 18 : Int) ≤ M ∧ (T ≠ 0 → (d : Int) < T → (alkF l (a - d) a 18 : Int) < M)
  at_ : T ≠ 0 → (alkF l (a - T.toNat) a 18 : Int) = M
theorem best_is (l : List UInt8) (a : Nat) (ha : a ≤ l.length) : Best l a (bestF l a (min a 256)).1 (bestF l a (min a 256)).2 := by
  obtain ⟨h2, h18, hle, hz, h5⟩ := bestF_two l a (min a 256)
  refine ⟨by omega, by omega, by omega, fun h => by have := hz (by omega); omega, fun h => ?_, fun d h1 h2 h3 => ?_, fun h => ?_⟩
  · obtain ⟨g1, g2⟩ := h5 (by omega)
    have := alkF_end l (a - (bestF l a (min a 256)).2) a 18 ha
    omega
  · obtain ⟨g1, g2⟩ := bestF_most l a (min a 256) d h1 (by omega)
    refine ⟨by omega, fun ht hlt => ?_⟩
    obtain ⟨g3, _⟩ := h5 (by omega)
    have : ¬ alkF l (a - d) a 18 = (bestF l a (min a 256)).1 := fun e => by
      have := g2 (by omega) e; omega
    omega
  · rw [Int.toNat_natCast, (h5 (by omega)).2]
theorem strU_eq (a b : List UInt8) : ((strU a).toList == (strU b).toList) = decide (a = b) := by
  have e1 : (strU a).toList = a := strU_toList a
  have e2 : (strU b).toList = b := strU_toList b
  rw [e1, e2, Bool.eq_iff_iff]; simp
theorem Bs.drewN' {lo hi : Nat} {w : World} {v : Value} {l : List UInt8} (h : Bs lo hi w v l) (n : Nat) : Bs lo hi (w.drewN n) v l := h
theorem rtell_lit (base : Nat) (A : Option Addr) (n c : Nat) (l : List UInt8) (N J : Int) (w : World) (h : w.ownsRow base 5 1 (.slice A n c) n (l.map u8v)) (hb : base ≤ w.heap.size) (n3 : 3 ≤ N) (n18 : N ≤ 18) (j1 : 1 ≤ J) (j2 : J ≤ 256) (hd : J ≤ n) (hn : n ≤ 2000000) :
    Calls Tryz.prog 83 #[.slice A n c, .agg #[.int .u8 0, .int .i64 N, .int .i64 J]] w fun e w' => ∃ A' n' c', e = .returned (.slice A' n' c') ∧ w'.ownsRow base 5 1 (.slice A' n' c') n' ((tellN l J.toNat N.toNat).map u8v) ∧ Below base w w' := by
  have hok : okT ⟨0, N, J⟩ = true := by rw [okT_iff]; exact .inr ⟨by omega, rfl, n3, n18, j1, j2⟩
  have ht : tellT l ⟨0, N, J⟩ = tellN l J.toNat N.toNat := by
    unfold tellT
    simp only []
    rw [if_neg (by omega)]
  have h := rtell_any base A n c l ⟨0, N, J⟩ w h hb hok hd hn
  rw [ht] at h
  exact h.mono fun _ _ ⟨A', n', c', he, _, ho, hb⟩ => ⟨A', n', c', he, ho, hb⟩
set_option maxRecDepth 100000 in
set_option maxHeartbeats 16000000 in
theorem rFind_main (lo : Nat) (v : Value) (l : List UInt8) (a : Nat) (M T : Int) (w : World) (h : Bs lo w.heap.size w v l) (hL : l.length ≤ 65536) (ha : a < l.length) (hB : Best l a M T) :
    Calls Tryz.prog 97 #[v, .int .i64 a] w fun e w' => e = .returned (.tuple #[.agg #[.int .u8 0, .int .i64 (if T = 0 then 0 else M), .int .i64 T], .int .i64 (if T = 0 then 4 else 0)]) ∧ Below w.heap.size w w' := by
  obtain ⟨i0, hi0, iz0, iz1, iz2⟩ := info_parts info5
  obtain ⟨A, c, rfl, h1, h2, _⟩ := h.open
  obtain ⟨G, hG⟩ : ∃ G : Int, G = (a : Int) := ⟨_, rfl⟩
  have hpre := Bs.pre h a (by omega)
  have hla : (l.take a).length = a := by rw [List.length_take]; omega
  have hsrc := fun W (hb : Below w.heap.size w W) => SrcOk.below hpre.src.2 hb
  have hone := u8s_one (l.take a)
  have hlm : ((l.take a).map u8v).length = a * 1 := by simp; omega
  have b1 : 0 + a ≤ maxLen := by simp only [maxLen]; omega
  have b2 : (0 + a) * 1 ≤ 140737488355328 := by omega
  have hsl := fun W => slice_b A l.length c G a hG (by omega) W
  rw [← hG]
  have j1 : 0 ≤ G := by omega
  have j2 : G < (l.length : Int) := by omega
  have j3 : (l.length : Int) ≤ 65536 := by omega
  have m0 := hB.m0
  have m1 := hB.m1
  replace hG := hide hG; replace hpre := hide hpre; replace hla := hide hla; replace hsrc := hide hsrc; replace hone := hide hone; replace hlm := hide hlm; replace b1 := hide b1; replace b2 := hide b2; replace h := hide h; replace hB := hide hB
  have k1 : IntKind.i64.wrap ((l.length : Int) - G) = (l.length : Int) - G := IntWalk.i64_in _ (by omega)
  go_enter Tryz.func97, Tryz.ntmps97
  go_wp2
  go_loopw [6] (fun i wr => ∃ (N : Int), 2 ≤ N ∧ N ≤ 18 ∧ M ≤ N ∧ i = .int .i64 N ∧ Hid (Below w.heap.size w wr) ∧ Hid (Blk wr w.heap.size 79 #[.int .u8 0, .int .i64 0, .int .i64 0])) (fun i _ => (intOf i).toNat)
  case atStart => exact ⟨18, by omega, by omega, m1, rfl, hide (by (repeat (first | with_reducible exact Below.refl _ _ | with_reducible assumption | with_reducible refine Below.drew ?_ | with_reducible refine bl_alloc ?_ _ | with_reducible refine bl_call ?_ (by assumption) | (focus (with_reducible refine Below.setCell ?_ ?_ _; rotate_left; focus (first | omega | (simp <;> omega)))) | fail))), hide (by (repeat (first | with_reducible assumption | (focus (with_reducible refine Blk.new ?_; focus (simp <;> fail))) | with_reducible refine Blk.set3 (a := .int .u8 0) (b := .int .i64 0) (c := .int .i64 0) ?_ | with_reducible refine Blk.alloc ?_ _ | with_reducible refine Blk.drew ?_ | (focus (with_reducible refine Blk.far ?_ ?_ _; rotate_left; focus (first | omega | (simp <;> omega)))) | (focus (with_reducible refine Blk.below ?_ hb1 ?_; rotate_left; focus (first | omega | (simp <;> omega)))) | (focus (with_reducible refine Blk.below ?_ hb2 ?_; rotate_left; focus (first | omega | (simp <;> omega)))) | (focus (with_reducible refine Blk.below ?_ hb3 ?_; rotate_left; focus (first | omega | (simp <;> omega)))) | (focus (with_reducible refine Blk.below ?_ hb4 ?_; rotate_left; focus (first | omega | (simp <;> omega)))) | (focus (with_reducible refine Blk.below ?_ hb5 ?_; rotate_left; focus (first | omega | (simp <;> omega)))) | (focus (with_reducible refine Blk.below ?_ hb6 ?_; rotate_left; focus (first | omega | (simp <;> omega)))) | (focus (with_reducible refine Blk.below ?_ hb7 ?_; rotate_left; focus (first | omega | (simp <;> omega)))) | (focus (with_reducible refine Blk.below ?_ hb8 ?_; rotate_left; focus (first | omega | (simp <;> omega)))) | (focus (with_reducible refine Blk.below ?_ hb9 ?_; rotate_left; focus (first | omega | (simp <;> omega)))) | (focus (with_reducible refine Blk.below ?_ hb10 ?_; rotate_left; focus (first | omega | (simp <;> omega)))) | (focus (with_reducible refine Blk.below ?_ hb11 ?_; rotate_left; focus (first | omega | (simp <;> omega)))) | (focus (with_reducible refine Blk.below ?_ hb12 ?_; rotate_left; focus (first | omega | (simp <;> omega)))) | fail)))⟩
  case round =>
    obtain ⟨N, n0, n1, n2, rfl, hb, hZ⟩ := hrel
    by_cases h3 : 3 ≤ N
    · go_wp2_with fail
      go_loopw [7] (fun j wx => ∃ J : Int, 1 ≤ J ∧ J ≤ 257 ∧ J ≤ G + 1 ∧ j = .int .i64 J ∧ Hid (T ≠ 0 → N = M → J ≤ T) ∧ Hid (Below w.heap.size w wx) ∧ Hid (Blk wx w.heap.size 79 #[.int .u8 0, .int .i64 0, .int .i64 0])) (fun j _ => 258 - (intOf j).toNat)
      case atStart => exact ⟨1, by omega, by omega, by omega, rfl, hide (fun ht _ => by have := (unhide hB).t0; omega), hb, hZ⟩
      case round =>
        clear hb hZ
        obtain ⟨J, g0, g1, g2, rfl, hJ, hb, hZ⟩ := hrel
        by_cases hgo : J ≤ 256 ∧ J ≤ G ∧ N ≤ (l.length : Int) - G
        · obtain ⟨o1, o2, o3⟩ := hgo
          have hG' := unhide hG
          have htst := told_iff (l := l) (a := a) (d := J.toNat) (n := N.toNat) (by omega) (by omega) (by omega) (by omega)
          have i1 : IntKind.i64.wrap (G + N) = G + N := IntWalk.i64_in _ (by omega)
          have i2 : IntKind.i64.wrap (J + 1) = J + 1 := IntWalk.i64_in _ (by omega)
          have hsl2 := fun W => slice_b A l.length c (G + N) (a + N.toNat) (by omega) (by omega) W
          have hb0 := unhide hb
          have hsz := hb0.size
          have hbx : Below w.heap.size w (wr.alloc (.cells #[.int .u8 0, .int .i64 N, .int .i64 J] 79)) := bl_alloc hb0 _
          have hda : J ≤ (a : Int) := by omega
          clear hG'
          replace htst := hide htst; replace hb0 := hide hb0; replace hbx := hide hbx; replace hda := hide hda
          go_wp2_with fail
          go_region_held3 (fun W => W.cell? ⟨wr.heap.size, 0, none⟩ = some (.int .u8 0) ∧ W.cell? ⟨wr.heap.size, 1, none⟩ = some (.int .i64 N) ∧ W.cell? ⟨wr.heap.size, 2, none⟩ = some (.int .i64 J)) (first | exact ⟨by go_simp, by go_simp, by go_simp⟩)
            (first
              | (refine step_app rfl (.const (.slice none 0 0)) (.tmp 49) 29 rfl (wr.heap.size + 1) 5 i0 _ 1 1 Tryz.underlying29 hi0 iz0 iz1 iz2 rfl (Nat.succ_pos _) _ 0 [] rfl (World.ownsRow_nil _ _ _ _) A a c _ rfl (unhide hlm) (unhide hsrc _ (by first | exact unhide hbx | exact Below.drew (unhide hbx))) (unhide hone) (unhide b1) (unhide b2) (by simp <;> omega) ?_
                 intro v2 w2 hown2 hg2
                 have hb2 : Below (wr.heap.size + 1) (wr.alloc (.cells #[.int .u8 0, .int .i64 N, .int .i64 J] 79)) w2 := (Below.drew (Below.refl _ _)).grown hg2 (by simp <;> omega) (by intro k hk; simp [Act.eval, Value.ownBlock] at hk)
                 rw [Nat.zero_add, List.nil_append] at hown2
                 obtain ⟨A2, c2, rfl⟩ := ownsRow_form hown2
                 obtain ⟨hc2, hf2⟩ : (∀ b o, b < wr.heap.size + 1 → w2.cell? ⟨b, o, none⟩ = _) ∧ True := ⟨fun b o h => hb2.cell (p := ⟨b, o, none⟩) h, trivial⟩
                 have hz2 := hb2.size
                 simp at hz2
                 replace hown2 := hide hown2; replace hb2 := hide hb2)
              | (go_at_call 83
                 refine (rtell_lit (wr.heap.size + 1) A2 a c2 (l.take a) N J _ (show World.ownsRow _ _ _ _ _ _ _ from unhide hown2) (by first | omega | (simp <;> omega)) h3 n1 g0 o1 (unhide hda) (by omega)).mono ?_
                 rintro e w3 ⟨A3, n3, c3, rfl, hown3, hb3⟩
                 obtain ⟨hc3, hf3⟩ : (∀ b o, b < wr.heap.size + 1 → w3.cell? ⟨b, o, none⟩ = _) ∧ True := ⟨fun b o h => hb3.cell (p := ⟨b, o, none⟩) h, trivial⟩
                 have hz3 := hb3.size
                 (try simp at hz3)
                 replace hown3 := hide hown3; replace hb3 := hide hb3))
          have hbw3 : Below w.heap.size w w3 := ((unhide hbx).trans ((unhide hb2).mono (by omega))).trans ((unhide hb3).mono (by omega))
          have hZ3 : Blk w3 w.heap.size 79 #[.int .u8 0, .int .i64 0, .int .i64 0] := Blk.below (Blk.below ((unhide hZ).alloc _) (unhide hb2) (by omega)) (show Below (wr.heap.size + 1) w2 w3 from unhide hb3) (by omega)
          have hX3 : Blk w3 wr.heap.size 79 #[.int .u8 0, .int .i64 N, .int .i64 J] := Blk.below (Blk.below (Blk.new rfl) (unhide hb2) (by omega)) (show Below (wr.heap.size + 1) w2 w3 from unhide hb3) (by omega)
          have q1 := fun n => (Bs.drewN' (Bs.own (unhide hown3)) n).convert
          have q2 := fun n => (Bs.drewN' (Bs.below (Bs.pre (unhide h) (a + N.toNat) (by have := unhide hG; omega)) hbw3 (Nat.le_refl _)) n).convert
          have hs := strU_eq (tellN (l.take a) J.toNat N.toNat) (l.take (a + N.toNat))
          have u0 := hZ3.cell 0
          have u1 := hZ3.cell 1
          have u2 := hZ3.cell 2
          simp at u0 u1 u2
          have v0 := hZ3.frozen 0
          have v1 := hZ3.frozen 1
          have v2 := hZ3.frozen 2
          have s0 := hX3.cell 0
          have s1 := hX3.cell 1
          have s2 := hX3.cell 2
          simp at s0 s1 s2
          have z0 : w.heap.size < w3.heap.size := hZ3.lt
          have z1 : wr.heap.size < w3.heap.size := hX3.lt
          by_cases hf : T ≠ 0 ∧ N = M ∧ J = T
          · obtain ⟨f1, f2, f3⟩ := hf
            have ht : tellN (l.take a) J.toNat N.toNat = l.take (a + N.toNat) := by
              rw [(unhide htst)]
              have := (unhide hB).at_ f1
              rw [f2, f3]
              omega
            rw [decide_eq_true ht] at hs
            clear ht hc2 hc3 hf2 hf3
            generalize tellN (l.take a) J.toNat N.toNat = X1 at *
            generalize l.take (a + N.toNat) = X2 at *
            generalize strU X1 = S1 at *
            generalize strU X2 = S2 at *
            replace hbw3 := hide hbw3; replace hZ3 := hide hZ3; replace hX3 := hide hX3; replace f1 := hide f1; replace f2 := hide f2; replace f3 := hide f3
            go_wp2_with fail
            go_quiet (fail)
            go_wp2_with fail
            have e2 := unhide f2
            have e3 := unhide f3
            subst e2 e3
            have B0 := unhide hZ3
            refine ret_tk rfl w.heap.size (.int .u8 0) (.int .i64 N) (.int .i64 J) (.int .i64 0) rfl rfl ?_ rfl ⟨rfl, ?_⟩
            · exact Blk.set3 (B0.drewN _)
            · have hb9 := below_drewN (unhide hbw3) nq
              (repeat (first | with_reducible exact Below.refl _ _ | with_reducible assumption | with_reducible refine Below.drew ?_ | with_reducible refine bl_alloc ?_ _ | with_reducible refine bl_call ?_ (by assumption) | (focus (with_reducible refine Below.setCell ?_ ?_ _; rotate_left; focus (first | omega | (simp <;> omega)))) | fail))
          · have ht : ¬ tellN (l.take a) J.toNat N.toNat = l.take (a + N.toNat) := by
              rw [(unhide htst)]
              intro hle
              have hda' := unhide hda
              obtain ⟨r1, r2⟩ := (unhide hB).most J.toNat (by omega) (by omega) (by omega)
              by_cases hT : T = 0
              · have := (unhide hB).none hT; omega
              · have hMN : N = M := by omega
                have := unhide hJ hT hMN
                have hlt : J < T := by
                  rcases Int.lt_or_eq_of_le this with h | h
                  · exact h
                  · exact absurd ⟨hT, hMN, h⟩ hf
                have := r2 hT (by omega)
                omega
            rw [decide_eq_false ht] at hs
            have hJ2 : Hid (T ≠ 0 → N = M → J + 1 ≤ T) := hide fun hT hMN => by
              have := unhide hJ hT hMN
              rcases Int.lt_or_eq_of_le this with h | h
              · omega
              · exact absurd ⟨hT, hMN, h⟩ hf
            clear ht hc2 hc3 hf2 hf3 hf
            generalize tellN (l.take a) J.toNat N.toNat = X1 at *
            generalize l.take (a + N.toNat) = X2 at *
            generalize strU X1 = S1 at *
            generalize strU X2 = S2 at *
            replace hbw3 := hide hbw3; replace hZ3 := hide hZ3; replace hX3 := hide hX3
            go_wp2_with fail
            go_quiet (fail)
            go_wp2_with fail
            clear i1 i2
            go_roundw
            case rel => exact ⟨J + 1, by omega, by omega, by omega, rfl, hJ2, hide (below_drewN (unhide hbw3) _), hide ((unhide hZ3).drewN _)⟩
            case measure => simp [intOf]; omega
        · have hNM : T ≠ 0 → N ≠ M := fun hT hMN => by
            have h1 := unhide hJ hT hMN
            obtain ⟨r1, r2, r3, r4⟩ := (unhide hB).some hT
            have := unhide hG
            exact hgo ⟨by omega, by omega, by omega⟩
          have hn2 : M ≤ N - 1 := by
            by_cases hT : T = 0
            · have := (unhide hB).none hT; omega
            · have := hNM hT; omega
          have i1 : IntKind.i64.wrap (N - 1) = N - 1 := IntWalk.i64_in _ (by omega)
          clear hNM
          replace hgo := hide hgo
          go_wp2_with fail
          all_goals first
            | (have hgo' := unhide hgo; exfalso; omega)
            | skip
          all_goals clear i1
          all_goals
            go_roundw
            case rel => exact ⟨N - 1, by omega, by omega, hn2, rfl, hb, hZ⟩
            case measure => simp [intOf]; omega
    · obtain rfl : N = 2 := by omega
      have hT : T = 0 := by
        apply Classical.byContradiction
        intro hne
        have := ((unhide hB).some hne).1
        omega
      subst hT
      have u0 := (unhide hZ).cell 0
      have u1 := (unhide hZ).cell 1
      have u2 := (unhide hZ).cell 2
      simp at u0 u1 u2
      have v0 := (unhide hZ).frozen 0
      have v1 := (unhide hZ).frozen 1
      have v2 := (unhide hZ).frozen 2
      have y0 := (unhide hZ).lt
      go_wp2_with fail
      have B0 := unhide hZ
      have hb0 := unhide hb
      refine ret_tk rfl w.heap.size (.int .u8 0) (.int .i64 0) (.int .i64 0) (.int .i64 4) rfl rfl ?_ rfl ⟨by simp, by (repeat (first | with_reducible exact Below.refl _ _ | with_reducible assumption | with_reducible refine Below.drew ?_ | with_reducible refine bl_alloc ?_ _ | with_reducible refine bl_call ?_ (by assumption) | (focus (with_reducible refine Below.setCell ?_ ?_ _; rotate_left; focus (first | omega | (simp <;> omega)))) | fail))⟩
      (repeat (first | with_reducible assumption | (focus (with_reducible refine Blk.new ?_; focus (simp <;> fail))) | with_reducible refine Blk.set3 (a := .int .u8 0) (b := .int .i64 0) (c := .int .i64 0) ?_ | with_reducible refine Blk.alloc ?_ _ | with_reducible refine Blk.drew ?_ | (focus (with_reducible refine Blk.far ?_ ?_ _; rotate_left; focus (first | omega | (simp <;> omega)))) | (focus (with_reducible refine Blk.below ?_ hb1 ?_; rotate_left; focus (first | omega | (simp <;> omega)))) | (focus (with_reducible refine Blk.below ?_ hb2 ?_; rotate_left; focus (first | omega | (simp <;> omega)))) | (focus (with_reducible refine Blk.below ?_ hb3 ?_; rotate_left; focus (first | omega | (simp <;> omega)))) | (focus (with_reducible refine Blk.below ?_ hb4 ?_; rotate_left; focus (first | omega | (simp <;> omega)))) | (focus (with_reducible refine Blk.below ?_ hb5 ?_; rotate_left; focus (first | omega | (simp <;> omega)))) | (focus (with_reducible refine Blk.below ?_ hb6 ?_; rotate_left; focus (first | omega | (simp <;> omega)))) | (focus (with_reducible refine Blk.below ?_ hb7 ?_; rotate_left; focus (first | omega | (simp <;> omega)))) | (focus (with_reducible refine Blk.below ?_ hb8 ?_; rotate_left; focus (first | omega | (simp <;> omega)))) | (focus (with_reducible refine Blk.below ?_ hb9 ?_; rotate_left; focus (first | omega | (simp <;> omega)))) | (focus (with_reducible refine Blk.below ?_ hb10 ?_; rotate_left; focus (first | omega | (simp <;> omega)))) | (focus (with_reducible refine Blk.below ?_ hb11 ?_; rotate_left; focus (first | omega | (simp <;> omega)))) | (focus (with_reducible refine Blk.below ?_ hb12 ?_; rotate_left; focus (first | omega | (simp <;> omega)))) | fail))
set_option maxRecDepth 100000 in
set_option maxHeartbeats 8000000 in
theorem rFind_any (lo : Nat) (v : Value) (l : List UInt8) (at_ : Int) (t : Tok) (er : Int) (w : World) (h : Bs lo w.heap.size w v l) (hr : findR l at_ = (t, er)) :
    Calls Tryz.prog 97 #[v, .int .i64 at_] w fun e w' => e = .returned (.tuple #[.agg #[.int .u8 (n8 t.lit), .int .i64 t.len, .int .i64 t.dist], .int .i64 er]) ∧ Below w.heap.size w w' := by
  by_cases hL : 65536 < l.length
  · obtain ⟨A, c, rfl, h1, h2, _⟩ := h.open
    clear h
    rw [findR, if_pos hL] at hr
    replace hr := hide hr
    go_enter Tryz.func97, Tryz.ntmps97
    go_wp2
    have hr' := unhide hr
    injection hr' with r1 r2
    subst r1 r2
    refine ret_tk rfl w.heap.size (.int .u8 0) (.int .i64 0) (.int .i64 0) (.int .i64 3) rfl rfl ?_ rfl ⟨rfl, by (repeat (first | with_reducible exact Below.refl _ _ | with_reducible assumption | with_reducible refine Below.drew ?_ | with_reducible refine bl_alloc ?_ _ | with_reducible refine bl_call ?_ (by assumption) | (focus (with_reducible refine Below.setCell ?_ ?_ _; rotate_left; focus (first | omega | (simp <;> omega)))) | fail))⟩
    (repeat (first | with_reducible assumption | (focus (with_reducible refine Blk.new ?_; focus (simp <;> fail))) | with_reducible refine Blk.set3 (a := .int .u8 0) (b := .int .i64 0) (c := .int .i64 0) ?_ | with_reducible refine Blk.alloc ?_ _ | with_reducible refine Blk.drew ?_ | (focus (with_reducible refine Blk.far ?_ ?_ _; rotate_left; focus (first | omega | (simp <;> omega)))) | (focus (with_reducible refine Blk.below ?_ hb1 ?_; rotate_left; focus (first | omega | (simp <;> omega)))) | (focus (with_reducible refine Blk.below ?_ hb2 ?_; rotate_left; focus (first | omega | (simp <;> omega)))) | (focus (with_reducible refine Blk.below ?_ hb3 ?_; rotate_left; focus (first | omega | (simp <;> omega)))) | (focus (with_reducible refine Blk.below ?_ hb4 ?_; rotate_left; focus (first | omega | (simp <;> omega)))) | (focus (with_reducible refine Blk.below ?_ hb5 ?_; rotate_left; focus (first | omega | (simp <;> omega)))) | (focus (with_reducible refine Blk.below ?_ hb6 ?_; rotate_left; focus (first | omega | (simp <;> omega)))) | (focus (with_reducible refine Blk.below ?_ hb7 ?_; rotate_left; focus (first | omega | (simp <;> omega)))) | (focus (with_reducible refine Blk.below ?_ hb8 ?_; rotate_left; focus (first | omega | (simp <;> omega)))) | (focus (with_reducible refine Blk.below ?_ hb9 ?_; rotate_left; focus (first | omega | (simp <;> omega)))) | (focus (with_reducible refine Blk.below ?_ hb10 ?_; rotate_left; focus (first | omega | (simp <;> omega)))) | (focus (with_reducible refine Blk.below ?_ hb11 ?_; rotate_left; focus (first | omega | (simp <;> omega)))) | (focus (with_reducible refine Blk.below ?_ hb12 ?_; rotate_left; focus (first | omega | (simp <;> omega)))) | fail))
  · by_cases ha : at_ < 0 ∨ (l.length : Int) ≤ at_
    · obtain ⟨A, c, rfl, h1, h2, _⟩ := h.open
      clear h
      rw [findR, if_neg hL, if_pos ha] at hr
      replace hr := hide hr; replace ha := hide ha
      go_enter Tryz.func97, Tryz.ntmps97
      go_wp2
      all_goals (have ha' := unhide ha; first | (exfalso; omega) | skip)
      all_goals (have hr' := unhide hr; injection hr' with r1 r2; subst r1 r2; refine ret_tk rfl w.heap.size (.int .u8 0) (.int .i64 0) (.int .i64 0) (.int .i64 1) rfl rfl ?_ rfl ⟨rfl, by (repeat (first | with_reducible exact Below.refl _ _ | with_reducible assumption | with_reducible refine Below.drew ?_ | with_reducible refine bl_alloc ?_ _ | with_reducible refine bl_call ?_ (by assumption) | (focus (with_reducible refine Below.setCell ?_ ?_ _; rotate_left; focus (first | omega | (simp <;> omega)))) | fail))⟩; (repeat (first | with_reducible assumption | (focus (with_reducible refine Blk.new ?_; focus (simp <;> fail))) | with_reducible refine Blk.set3 (a := .int .u8 0) (b := .int .i64 0) (c := .int .i64 0) ?_ | with_reducible refine Blk.alloc ?_ _ | with_reducible refine Blk.drew ?_ | (focus (with_reducible refine Blk.far ?_ ?_ _; rotate_left; focus (first | omega | (simp <;> omega)))) | (focus (with_reducible refine Blk.below ?_ hb1 ?_; rotate_left; focus (first | omega | (simp <;> omega)))) | (focus (with_reducible refine Blk.below ?_ hb2 ?_; rotate_left; focus (first | omega | (simp <;> omega)))) | (focus (with_reducible refine Blk.below ?_ hb3 ?_; rotate_left; focus (first | omega | (simp <;> omega)))) | (focus (with_reducible refine Blk.below ?_ hb4 ?_; rotate_left; focus (first | omega | (simp <;> omega)))) | (focus (with_reducible refine Blk.below ?_ hb5 ?_; rotate_left; focus (first | omega | (simp <;> omega)))) | (focus (with_reducible refine Blk.below ?_ hb6 ?_; rotate_left; focus (first | omega | (simp <;> omega)))) | (focus (with_reducible refine Blk.below ?_ hb7 ?_; rotate_left; focus (first | omega | (simp <;> omega)))) | (focus (with_reducible refine Blk.below ?_ hb8 ?_; rotate_left; focus (first | omega | (simp <;> omega)))) | (focus (with_reducible refine Blk.below ?_ hb9 ?_; rotate_left; focus (first | omega | (simp <;> omega)))) | (focus (with_reducible refine Blk.below ?_ hb10 ?_; rotate_left; focus (first | omega | (simp <;> omega)))) | (focus (with_reducible refine Blk.below ?_ hb11 ?_; rotate_left; focus (first | omega | (simp <;> omega)))) | (focus (with_reducible refine Blk.below ?_ hb12 ?_; rotate_left; focus (first | omega | (simp <;> omega)))) | fail)))
    · obtain ⟨a, rfl⟩ : ∃ a : Nat, at_ = a := ⟨at_.toNat, by omega⟩
      have ha' : a < l.length := by omega
      rw [findR_at ha' (by omega)] at hr
      have hm := rFind_main lo v l a _ _ w h (by omega) ha' (best_is l a (by omega))
      by_cases hz : (bestF l a (min a 256)).2 = 0
      · rw [if_pos hz] at hr
        injection hr with r1 r2
        subst r1 r2
        rw [if_pos (by omega), if_pos (by omega), hz] at hm
        exact hm
      · rw [if_neg hz] at hr
        injection hr with r1 r2
        subst r1 r2
        rw [if_neg (by omega), if_neg (by omega)] at hm
        rw [show nextT l a = ⟨0, (bestF l a (min a 256)).1, (bestF l a (min a 256)).2⟩ by unfold nextT; rw [if_neg hz]]
        exact hm
end Go.Proofs.YthkccpemgmpadaaGreatDoor.P.M
