import Derived.Test.YtfihgjdppkiolaaP2
namespace Go.Proofs.Ytfihgjdppkiolaa
set_option maxRecDepth 100000
open Go.RowKit

theorem bt_src {w : World} {g : Nat} {x : Bit} (h : Blk w g 42 #[.int .i64 x.at_, .bool x.b]) : SrcOk w (some ⟨g, 0, none⟩) 1 (btc x) :=
  SrcOk.blk (cur := [.int .i64 x.at_, .bool x.b]) h fun j u hu => by rw [Nat.zero_add]; exact hu
theorem bt_snoc (l : List Bit) (x : Bit) : l.flatMap btc ++ btc x = (l ++ [x]).flatMap btc := by simp
theorem numB_step (c : Int) (n k m : Nat) : numB c n (k + 1) m = ⟨c + m, n / 2 ^ k % 2 == 1⟩ :: numB c n k (2 * m + n / 2 ^ k % 2) := rfl
theorem bb_alloc {B : Nat} {a w : World} (h : Below B a w) (hB : B ≤ a.heap.size) (o : Obj) : Below B a (w.alloc o) := h.alloc (Nat.le_trans hB h.size) o
theorem bb_call {B : Nat} {a w w' : World} (h : Below B a w) (h' : Below w.heap.size w w') (hB : B ≤ a.heap.size) : Below B a w' := h.trans (h'.mono (Nat.le_trans hB h.size))

/-- Blocks of no other type than 'e' have turned. -/
def Kept (e : TypeId) (w w' : World) : Prop := ∀ g t cs, e ≠ t → Blk w g t cs → Blk w' g t cs
theorem Kept.refl (e : TypeId) (w : World) : Kept e w w := fun _ _ _ _ h => h
theorem Kept.trans {e : TypeId} {a b c : World} (h : Kept e a b) (k : Kept e b c) : Kept e a c := fun g t cs ht hb => k g t cs ht (h g t cs ht hb)
theorem Kept.alloc {e : TypeId} {a b : World} (h : Kept e a b) (o : Obj) : Kept e a (b.alloc o) := fun g t cs ht hb => (h g t cs ht hb).alloc o
theorem Kept.drew {e : TypeId} {a b : World} (h : Kept e a b) : Kept e a b.drew := fun g t cs ht hb => (h g t cs ht hb).drew
theorem Kept.below {e : TypeId} {a b c : World} (h : Kept e a b) (hb : Below b.heap.size b c) : Kept e a c := fun g t cs ht hB => (h g t cs ht hB).below hb (h g t cs ht hB).lt
theorem Kept.grown {e : TypeId} {a b c : World} {base size n : Nat} {v : Value} {xs : List Value} (h : Kept e a b) (ho : b.ownsRow base e size v n xs) (hg : b.grownBy c v.ownBlock) : Kept e a c := fun g t cs ht hB =>
  (h g t cs ht hB).grown hg (own_ne ho (h g t cs ht hB) ht)
theorem Kept.own {e t : TypeId} {a b : World} {base size n : Nat} {v : Value} {xs : List Value} (h : Kept e a b) (ho : a.ownsRow base t size v n xs) (hne : e ≠ t) : b.ownsRow base t size v n xs := by
  refine ⟨ho.1, ?_⟩
  rcases ho.2 with hn | ⟨g, cap, cur, h1, h2, h3, h4⟩
  · exact .inl hn
  · exact .inr ⟨g, cap, cur, h1, h2, h g t cur hne h3, h4⟩

set_option maxHeartbeats 1000000 in
theorem putNum_any (base n c0 k V : Nat) (A : Option Addr) (c : Int) (l : List Bit) (w : World) (h : w.ownsRow base 42 2 (.slice A n c0) n (l.flatMap btc)) (hb : base ≤ w.heap.size) (hk : k ≤ 8) (hc : 0 ≤ c ∧ c ≤ 528) (hn : n ≤ 1000000000) :
    Calls Try.prog 37 #[.slice A n c0, .int .i64 k, .int .i64 c, .int .i64 V] w fun e w' => ∃ A' c', e = .returned (.slice A' (n + k) c') ∧ w'.ownsRow base 42 2 (.slice A' (n + k) c') (n + k) ((l ++ numB c V k 1).flatMap btc) ∧ Below base w w' ∧ Kept 42 w w' := by
  obtain ⟨i0, hi0, iz0, iz1, iz2⟩ := info_parts info51
  replace hb := hide hb
  replace h := hide h
  go_enter Try.func37, Try.ntmps37
  go_wp2_with fail
  go_loopw [0, 9, 13] (fun s0 s9 i wr => ∃ (j m n' c' : Nat) (A' : Option Addr) (lj : List Bit), j ≤ k ∧ s0 = .slice A' n' c' ∧ s9 = .int .i64 m ∧ i = .int .i64 j ∧ Hid (m < 2 ^ (j + 1)) ∧ m < 1024 ∧ n' = n + j ∧ Hid (l ++ numB c V k 1 = lj ++ numB c V (k - j) m) ∧ Hid (wr.ownsRow base 42 2 (.slice A' n' c') n' (lj.flatMap btc)) ∧ Hid (Below base w wr) ∧ Hid (Kept 42 w wr)) (fun _ _ i _ => 8 - (intOf i).toNat)
  case atStart => exact ⟨0, 1, n, c0, A, l, by omega, rfl, rfl, rfl, hide (by decide), by omega, rfl, hide rfl, h, hide (Below.refl _ _), hide (Kept.refl _ _)⟩
  case round =>
    obtain ⟨j, m, n', c', A', lj, hj, rfl, rfl, rfl, hm, hm2, hn', hl, ho, hB, hE⟩ := hrel
    by_cases hlt : j < k
    · have hq2 : V / 2 ^ (k - 1 - j) % 2 < 2 := Nat.mod_lt _ (by omega)
      have hbit : bits .and .i64 ((V : Int) / 2 ^ (k - 1 - j)) 1 = ((V / 2 ^ (k - 1 - j) % 2 : Nat) : Int) := by rw [i64_and1]; simp
      have hnx := numB_step c V (k - (j + 1)) m
      rw [show k - (j + 1) + 1 = k - j by omega, show k - (j + 1) = k - 1 - j by omega] at hnx
      obtain ⟨q, hq⟩ : ∃ q, q = V / 2 ^ (k - 1 - j) % 2 := ⟨_, rfl⟩
      rw [← hq] at hbit hnx hq2
      obtain ⟨B, hBq⟩ : ∃ B, B = (q == 1) := ⟨_, rfl⟩
      have hb1 : ((q : Int) == 1) = B := by rw [hBq, Bool.eq_iff_iff]; simp; omega
      rw [← hBq] at hnx
      obtain ⟨m', hm'⟩ : ∃ m', m' = 2 * m + q := ⟨_, rfl⟩
      rw [← hm'] at hnx
      have hor : bits .or .i64 ((m : Int) * 2) q = (m' : Int) := by rw [i64_join 1 (by omega) _ _ (by omega) (by omega) (by omega) (by omega) (by omega)]; omega
      have hm3 : m' < 2 ^ (j + 1 + 1) := by rw [Nat.pow_succ]; have := unhide hm; omega
      have hm4 : m' < 1024 := by
        have : 2 ^ (j + 1 + 1) ≤ 2 ^ 9 := Nat.pow_le_pow_right (by omega) (by omega)
        omega
      have u1 : n' + 1 ≤ maxLen := by simp only [maxLen]; omega
      have u2 : (n' + 1) * 16 ≤ 140737488355328 := by omega
      have hto := btc_one ⟨c + m, B⟩
      have hfl := bt_snoc lj ⟨c + m, B⟩
      have hsz := (unhide hB).size
      have hl2 : l ++ numB c V k 1 = (lj ++ [⟨c + m, B⟩]) ++ numB c V (k - (j + 1)) m' := by rw [unhide hl, hnx, show k - (j + 1) = k - 1 - j by omega]; simp
      replace hl2 := hide hl2; replace hm3 := hide hm3; replace hto := hide hto; replace hfl := hide hfl; replace u1 := hide u1; replace u2 := hide u2; replace hsz := hide hsz; replace hm' := hide hm'; replace hn' := hide hn'
      clear hl hnx hBq hq
      go_wp2_with (first
        | (at_builtin
           refine wpList_app _ rfl (.tmp 23) (.tmp 30) 25 rfl base 42 i0 _ 2 16 Try.underlying25 hi0 iz0 iz1 iz2 rfl (Nat.succ_pos _) _ n' (lj.flatMap btc) rfl ((unhide ho).alloc _) (some ⟨wr.heap.size, 0, none⟩) 1 1 (btc ⟨c + m, B⟩) rfl rfl (bt_src (x := ⟨c + m, B⟩) (Blk.new rfl)) (unhide hto) (unhide u1) (unhide u2) (by have := unhide hsz; have := unhide hb; simp; omega) ?_
           intro v2 w2 hown2 hg2
           obtain ⟨A2, c2, rfl⟩ := ownsRow_form hown2
           rw [unhide hfl] at hown2)
        | fail)
      go_roundw
      case rel => exact ⟨j + 1, m', n' + 1, c2, A2, lj ++ [⟨c + m, B⟩], by omega, rfl, rfl, by go_num, hm3, hm4, by have := unhide hn'; omega, hl2, hide hown2, hide ((bb_alloc (unhide hB) (unhide hb) _).grown hg2 (by have := unhide hsz; have := unhide hb; simp; omega) (own_base (unhide ho))), hide (((unhide hE).alloc _).grown ((unhide ho).alloc _) hg2)⟩
      case measure => simp [intOf]; omega
    · obtain rfl : j = k := by omega
      have e : l ++ numB c V j 1 = lj := by rw [unhide hl, Nat.sub_self]; simp [numB]
      subst hn'
      clear hl hlt
      replace e := hide e
      go_wp2_with fail
      go_ret
      rw [unhide e]
      exact ⟨_, _, rfl, unhide ho, unhide hB, unhide hE⟩

/-- A token, by value. -/
abbrev tkV (t : Tok) : Value := .agg #[.int .u8 (M.n8 t.lit), .int .i64 t.len, .int .i64 t.dist]

set_option maxHeartbeats 2000000 in
theorem putTok_any (base n c0 : Nat) (A : Option Addr) (l : List Bit) (t : Tok) (w : World) (h : w.ownsRow base 42 2 (.slice A n c0) n (l.flatMap btc)) (hb : base ≤ w.heap.size) (hok : okT t = true) (hn : n ≤ 900000000) :
    Calls Try.prog 21 #[.slice A n c0, tkV t] w fun e w' => ∃ A' c', e = .returned (.slice A' (n + (tokB t).length) c') ∧ w'.ownsRow base 42 2 (.slice A' (n + (tokB t).length) c') (n + (tokB t).length) ((l ++ tokB t).flatMap btc) ∧ Below base w w' ∧ Kept 42 w w' := by
  obtain ⟨i0, hi0, iz0, iz1, iz2⟩ := info_parts info51
  have u1 : n + 1 ≤ maxLen := by simp only [maxLen]; omega
  have u2 : (n + 1) * 16 ≤ 140737488355328 := by omega
  by_cases h0 : t.len = 0
  · have hT : tokB t = ⟨0, false⟩ :: numB 0 t.lit.toNat 8 1 := by unfold tokB; rw [if_pos h0, h0]; rfl
    have hlen : (tokB t).length = 1 + 8 := by rw [hT]; simp [numB_len]
    rw [hlen, hT]
    have hP := fun (A : Option Addr) (c1 : Nat) (W : World) (k : W.ownsRow base 42 2 (.slice A (n + 1) c1) (n + 1) ((l ++ [(⟨0, false⟩ : Bit)]).flatMap btc)) (hs : base ≤ W.heap.size) => putNum_any base (n + 1) c1 8 t.lit.toNat A 0 (l ++ [(⟨0, false⟩ : Bit)]) W k hs (by omega) (by omega) (by omega)
    have hx8 : t.lit.toNat < 256 := t.lit.toNat_lt
    obtain ⟨x, tl, td⟩ := t
    simp only [] at h0 hP hx8
    subst h0
    have hto := btc_one ⟨0, false⟩
    have hfl := bt_snoc l ⟨0, false⟩
    rw [List.append_cons]
    change Calls Try.prog 21 #[.slice A n c0, .agg #[.int .u8 ((x.toNat : Nat) : Int), .int .i64 0, .int .i64 td]] w _
    replace hP := hide hP; replace h := hide h; replace hb := hide hb; replace u1 := hide u1; replace u2 := hide u2; replace hto := hide hto; replace hfl := hide hfl
    clear hlen hT hok
    generalize x.toNat = V at *
    go_enter Try.func21, Try.ntmps21
    go_wp2_with (first
      | (at_builtin; (
         refine wpList_app _ rfl (.tmp 8) (.tmp 10) 25 rfl base 42 i0 _ 2 16 Try.underlying25 hi0 iz0 iz1 iz2 rfl (Nat.succ_pos _) _ n (l.flatMap btc) rfl (((unhide h).alloc _).alloc _) (some ⟨w.heap.size + 1, 0, none⟩) 1 1 (btc ⟨0, false⟩) rfl rfl (bt_src (x := ⟨0, false⟩) (by (repeat (first | with_reducible assumption | (focus (with_reducible refine Blk.new ?_; focus (simp <;> fail))) | with_reducible refine Blk.set3 (a := .int .u8 0) (b := .int .i64 0) (c := .int .i64 0) ?_ | with_reducible refine Blk.alloc ?_ _ | with_reducible refine Blk.drew ?_ | (focus (with_reducible refine Blk.far ?_ ?_ _; rotate_left; focus (first | omega | (simp <;> omega)))) | (focus (with_reducible refine Blk.below ?_ hb1 ?_; rotate_left; focus (first | omega | (simp <;> omega)))) | (focus (with_reducible refine Blk.below ?_ hb2 ?_; rotate_left; focus (first | omega | (simp <;> omega)))) | (focus (with_reducible refine Blk.below ?_ hb3 ?_; rotate_left; focus (first | omega | (simp <;> omega)))) | (focus (with_reducible refine Blk.below ?_ hb4 ?_; rotate_left; focus (first | omega | (simp <;> omega)))) | (focus (with_reducible refine Blk.below ?_ hb5 ?_; rotate_left; focus (first | omega | (simp <;> omega)))) | (focus (with_reducible refine Blk.below ?_ hb6 ?_; rotate_left; focus (first | omega | (simp <;> omega)))) | (focus (with_reducible refine Blk.below ?_ hb7 ?_; rotate_left; focus (first | omega | (simp <;> omega)))) | (focus (with_reducible refine Blk.below ?_ hb8 ?_; rotate_left; focus (first | omega | (simp <;> omega)))) | (focus (with_reducible refine Blk.below ?_ hb9 ?_; rotate_left; focus (first | omega | (simp <;> omega)))) | (focus (with_reducible refine Blk.below ?_ hb10 ?_; rotate_left; focus (first | omega | (simp <;> omega)))) | (focus (with_reducible refine Blk.below ?_ hb11 ?_; rotate_left; focus (first | omega | (simp <;> omega)))) | (focus (with_reducible refine Blk.below ?_ hb12 ?_; rotate_left; focus (first | omega | (simp <;> omega)))) | fail)))) (unhide hto) (unhide u1) (unhide u2) (by have := unhide hb; simp; omega) ?_
         intro v2 w2 hown2 hg2
         obtain ⟨A2, c2, rfl⟩ := ownsRow_form hown2
         rw [unhide hfl] at hown2
         have K2 : Kept 42 w w2 := (((Kept.refl 42 w).alloc _).alloc _).grown (((unhide h).alloc _).alloc _) hg2
         have B2 : Below base w w2 := (bb_alloc (bb_alloc (Below.refl _ _) (unhide hb) _) (unhide hb) _).grown hg2 (by have := unhide hb; simp; omega) (own_base (unhide h))
         have k3 : Blk w2 w.heap.size 40 #[.int .u8 (V : Int), .int .i64 0, .int .i64 td] := ((Kept.refl 42 _).alloc _).grown (((unhide h).alloc _).alloc _) hg2 _ 40 _ (by decide) (Blk.new rfl)
         have q0 := k3.cell 0
         have y0 := k3.lt
         simp at q0
         replace K2 := hide K2; replace B2 := hide B2; replace k3 := hide k3; replace hown2 := hide hown2))
      | (go_at_call 37; refine (unhide hP _ _ _ (unhide hown2) (by have := (unhide B2).size; have := unhide hb; omega)).mono ?_; rintro e w3 ⟨A3, c3, rfl, o3, B3, K3⟩)
      | fail)
    go_ret
    exact ⟨_, _, rfl, o3, (unhide B2).trans B3, (unhide K2).trans K3⟩
  · obtain ⟨l0, l1, l2, l3, l4⟩ := okT_len hok h0
    have hd : decide (0 < t.len) = true := decide_eq_true (by omega)
    have hT : tokB t = ⟨0, true⟩ :: (numB 256 (t.len - 3).toNat 4 1 ++ numB 272 (t.dist - 1).toNat 8 1) := by unfold tokB; rw [if_neg h0, hd]
    have hlen : (tokB t).length = 1 + 4 + 8 := by rw [hT]; simp [numB_len]
    rw [hlen, hT]
    have hP := fun (A : Option Addr) (c1 : Nat) (W : World) (k : W.ownsRow base 42 2 (.slice A (n + 1) c1) (n + 1) ((l ++ [(⟨0, true⟩ : Bit)]).flatMap btc)) (hs : base ≤ W.heap.size) => putNum_any base (n + 1) c1 4 (t.len - 3).toNat A 256 (l ++ [(⟨0, true⟩ : Bit)]) W k hs (by omega) (by omega) (by omega)
    have hP2 := fun (A : Option Addr) (c1 : Nat) (W : World) (k : W.ownsRow base 42 2 (.slice A (n + 1 + 4) c1) (n + 1 + 4) ((l ++ [(⟨0, true⟩ : Bit)] ++ numB 256 (t.len - 3).toNat 4 1).flatMap btc)) (hs : base ≤ W.heap.size) => putNum_any base (n + 1 + 4) c1 8 (t.dist - 1).toNat A 272 (l ++ [(⟨0, true⟩ : Bit)] ++ numB 256 (t.len - 3).toNat 4 1) W k hs (by omega) (by omega) (by omega)
    have hL : (((t.len - 3).toNat : Nat) : Int) = t.len - 3 := by omega
    have hD : (((t.dist - 1).toNat : Nat) : Int) = t.dist - 1 := by omega
    obtain ⟨x, tl, td⟩ := t
    simp only [] at h0 hP hP2 l1 l2 l3 l4 hL hD
    have hto := btc_one ⟨0, true⟩
    have hfl := bt_snoc l ⟨0, true⟩
    have hF : l ++ ⟨0, true⟩ :: (numB 256 (tl - 3).toNat 4 1 ++ numB 272 (td - 1).toNat 8 1) = l ++ [⟨0, true⟩] ++ numB 256 (tl - 3).toNat 4 1 ++ numB 272 (td - 1).toNat 8 1 := by simp
    rw [hF]
    change Calls Try.prog 21 #[.slice A n c0, .agg #[.int .u8 ((x.toNat : Nat) : Int), .int .i64 tl, .int .i64 td]] w _
    rw [hL] at hP
    rw [hD] at hP2
    generalize numB 272 (td - 1).toNat 8 1 = Q at *
    generalize numB 256 (tl - 3).toNat 4 1 = N4 at *
    have hne : (tl == 0) = false := by simpa using h0
    replace hP := hide hP; replace hP2 := hide hP2; replace h := hide h; replace hb := hide hb; replace u1 := hide u1; replace u2 := hide u2; replace hto := hide hto; replace hfl := hide hfl
    clear hlen hT hok hF hL hD hd h0 l0
    generalize x.toNat = V at *
    go_enter Try.func21, Try.ntmps21
    go_wp2_with (first
      | (at_builtin; (
         refine wpList_app _ rfl (.tmp 17) (.tmp 19) 25 rfl base 42 i0 _ 2 16 Try.underlying25 hi0 iz0 iz1 iz2 rfl (Nat.succ_pos _) _ n (l.flatMap btc) rfl (((unhide h).alloc _).alloc _) (some ⟨w.heap.size + 1, 0, none⟩) 1 1 (btc ⟨0, true⟩) rfl rfl (bt_src (x := ⟨0, true⟩) (by (repeat (first | with_reducible assumption | (focus (with_reducible refine Blk.new ?_; focus (simp <;> fail))) | with_reducible refine Blk.set3 (a := .int .u8 0) (b := .int .i64 0) (c := .int .i64 0) ?_ | with_reducible refine Blk.alloc ?_ _ | with_reducible refine Blk.drew ?_ | (focus (with_reducible refine Blk.far ?_ ?_ _; rotate_left; focus (first | omega | (simp <;> omega)))) | (focus (with_reducible refine Blk.below ?_ hb1 ?_; rotate_left; focus (first | omega | (simp <;> omega)))) | (focus (with_reducible refine Blk.below ?_ hb2 ?_; rotate_left; focus (first | omega | (simp <;> omega)))) | (focus (with_reducible refine Blk.below ?_ hb3 ?_; rotate_left; focus (first | omega | (simp <;> omega)))) | (focus (with_reducible refine Blk.below ?_ hb4 ?_; rotate_left; focus (first | omega | (simp <;> omega)))) | (focus (with_reducible refine Blk.below ?_ hb5 ?_; rotate_left; focus (first | omega | (simp <;> omega)))) | (focus (with_reducible refine Blk.below ?_ hb6 ?_; rotate_left; focus (first | omega | (simp <;> omega)))) | (focus (with_reducible refine Blk.below ?_ hb7 ?_; rotate_left; focus (first | omega | (simp <;> omega)))) | (focus (with_reducible refine Blk.below ?_ hb8 ?_; rotate_left; focus (first | omega | (simp <;> omega)))) | (focus (with_reducible refine Blk.below ?_ hb9 ?_; rotate_left; focus (first | omega | (simp <;> omega)))) | (focus (with_reducible refine Blk.below ?_ hb10 ?_; rotate_left; focus (first | omega | (simp <;> omega)))) | (focus (with_reducible refine Blk.below ?_ hb11 ?_; rotate_left; focus (first | omega | (simp <;> omega)))) | (focus (with_reducible refine Blk.below ?_ hb12 ?_; rotate_left; focus (first | omega | (simp <;> omega)))) | fail)))) (unhide hto) (unhide u1) (unhide u2) (by have := unhide hb; simp; omega) ?_
         intro v2 w2 hown2 hg2
         obtain ⟨A2, c2, rfl⟩ := ownsRow_form hown2
         rw [unhide hfl] at hown2
         have K2 : Kept 42 w w2 := (((Kept.refl 42 w).alloc _).alloc _).grown (((unhide h).alloc _).alloc _) hg2
         have B2 : Below base w w2 := (bb_alloc (bb_alloc (Below.refl _ _) (unhide hb) _) (unhide hb) _).grown hg2 (by have := unhide hb; simp; omega) (own_base (unhide h))
         have k3 : Blk w2 w.heap.size 40 #[.int .u8 (V : Int), .int .i64 tl, .int .i64 td] := ((Kept.refl 42 _).alloc _).grown (((unhide h).alloc _).alloc _) hg2 _ 40 _ (by decide) (Blk.new rfl)
         have q1 := k3.cell 1
         have q2 := k3.cell 2
         have y0 := k3.lt
         simp at q1 q2
         replace K2 := hide K2; replace B2 := hide B2; replace k3 := hide k3; replace hown2 := hide hown2
         have tok1 : True := trivial))
      | (have _t := tok1; go_at_call 37; refine (unhide hP _ _ _ (unhide hown2) (by have := (unhide B2).size; have := unhide hb; omega)).mono ?_; rintro e w3 ⟨A3, c3, rfl, o3, B3, K3⟩
         clear tok1 _t q1 y0
         have k4 := K3 _ 40 _ (by decide) (unhide k3)
         have q3 := k4.cell 2
         have y1 := k4.lt
         simp at q3
         have B4 := (unhide B2).trans B3
         have K4 := (unhide K2).trans K3
         replace o3 := hide o3; replace B4 := hide B4; replace K4 := hide K4
         clear k4 K3 B3
         have tok2 : True := trivial)
      | (have _t := tok2; go_at_call 37; refine (unhide hP2 _ _ _ (unhide o3) (by have := (unhide B4).size; have := unhide hb; omega)).mono ?_; rintro e w5 ⟨A5, c5, rfl, o5, B5, K5⟩)
      | fail)
    go_ret
    exact ⟨_, _, rfl, o5, (unhide B4).trans B5, (unhide K4).trans K5⟩
end Go.Proofs.Ytfihgjdppkiolaa
