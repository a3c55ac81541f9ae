import Derived.Test.YtommlgdolahfbaaDoorRF
import Derived.Test.YtommlgdolahfbaaDoorR42
namespace Go.Proofs.YtommlgdolahfbaaDoor
set_option maxRecDepth 100000
open Go.RowKit

/-! ### the reference: numbers' octets -/
def leO (n k : Nat) : List UInt8 := (List.range k).map (oct n)
theorem leO_len (n k : Nat) : (leO n k).length = k := by simp [leO]
theorem leO_succ (n k : Nat) : leO n (k + 1) = leO n k ++ [oct n k] := by simp [leO, List.range_succ]
theorem one_src (w : World) (x : UInt8) : SrcOk (w.alloc (.cells #[u8v x] 5)) (some ⟨w.heap.size, 0, none⟩) 1 ([x].map u8v) := fun _ => by
  refine ⟨_, rfl, fun j u hu => ?_⟩
  have e : (⟨w.heap.size, 0, none⟩ : Addr).add j = ⟨w.heap.size, j, none⟩ := by
    unfold Addr.add
    split
    · rename_i h; subst h; rfl
    · simp
  rw [e, (Blk.new (w := w) (t := 5) (cs := #[u8v x]) rfl).cell]
  simpa using hu
theorem own_base' {w : World} {base : Nat} {e : TypeId} {size : Nat} {v : Value} {n : Nat} {xs : List Value} (h : w.ownsRow base e size v n xs) : ∀ k, v.ownBlock = some k → base ≤ k := by
  intro k hk
  rcases h.2 with ⟨rfl, _⟩ | ⟨g, cap, cur, rfl, hb, _⟩
  · simp [Value.ownBlock] at hk
  · simp [Value.ownBlock] at hk; omega
theorem bl_app {base : Nat} {w w' : World} {o : Obj} {e : TypeId} {k : Nat} {v : Value} {n : Nat} {xs : List Value} (hb : base ≤ w.heap.size) (hown : w.ownsRow base e k v n xs) (hg : (w.alloc o).grownBy w' v.ownBlock) : Below base w w' :=
  ((Below.refl _ _).alloc hb _).grown hg (by simp; omega) (own_base' hown)
theorem bl_app0 {base : Nat} {w w' : World} {e : TypeId} {k : Nat} {v : Value} {n : Nat} {xs : List Value} (hb : base ≤ w.heap.size) (hown : w.ownsRow base e k v n xs) (hg : w.grownBy w' v.ownBlock) : Below base w w' :=
  (Below.refl base w).grown hg hb (own_base' hown)
theorem le_alloc {base : Nat} {w : World} {o : Obj} (hb : base ≤ w.heap.size) : base ≤ (w.alloc o).heap.size := by simp; omega

set_option maxHeartbeats 1000000 in
theorem put_any (n wd : Nat) (hn : n < 18446744073709551616) (hw : wd ≤ 100) (w : World) :
    Calls Tryd.prog 30 #[.int .u64 (n : Nat), .int .i64 (wd : Nat)] w fun e w' => ∃ A c, e = .returned (.slice A wd c) ∧ w'.ownsRow w.heap.size 5 1 (.slice A wd c) wd ((leO n wd).map u8v) ∧ Below w.heap.size w w' := by
  obtain ⟨i0, hi0, hz0, hz1, hz2⟩ := info_parts info5
  have hown : w.ownsRow w.heap.size 5 1 (.slice none 0 0) 0 ((leO n 0).map u8v) := World.ownsRow_nil _ _ _ _
  have hb : Below w.heap.size w w := Below.refl _ _
  have hn' : n / 256 ^ 0 = n := by simp
  have hN := hide hn
  clear hn
  replace hown := hide hown; replace hb := hide hb; replace hn' := hide hn'
  go_enter Tryd.func30, Tryd.ntmps30
  go_wp2
  go_loopw [0, 5, 7] (fun s v i wr => ∃ k m : Nat, k ≤ wd ∧ s = .int .u64 m ∧ i = .int .i64 k ∧ (∃ A c, v = .slice A k c) ∧ Hid (m = n / 256 ^ k) ∧ Hid (wr.ownsRow w.heap.size 5 1 v k ((leO n k).map u8v)) ∧ Hid (Below w.heap.size w wr)) (fun _ _ i _ => wd - (intOf i).toNat)
  case atStart => exact ⟨0, n, by omega, rfl, rfl, ⟨_, _, rfl⟩, hide (unhide hn').symm, hown, hb⟩
  case round =>
    obtain ⟨k, m, hk, rfl, rfl, ⟨A, c, rfl⟩, hm, o, b⟩ := hrel
    by_cases hlt : k < wd
    · have k1 : (k : Int) < (wd : Int) := by omega
      have eo : ((m : Nat) : Int) % 256 = ((oct n k).toNat : Int) := by rw [oct_nat, ← unhide hm]; omega
      have hs : m / 256 = n / 256 ^ (k + 1) := by rw [unhide hm, Nat.div_div_eq_div_mul, Nat.pow_succ]
      have hmb : m < 18446744073709551616 := Nat.lt_of_le_of_lt (by rw [unhide hm]; exact Nat.div_le_self _ _) (unhide hN)
      have hl1 := leO_succ n k
      have b3 : k + 1 ≤ maxLen := by simp only [maxLen]; omega
      have b4 : (k + 1) * 1 ≤ 140737488355328 := by omega
      have hsz := (unhide b).size
      have ho := u8s_one [oct n k]
      generalize oct n k = x at *
      replace hs := hide hs; replace hmb := hide hmb; replace hl1 := hide hl1; replace b3 := hide b3; replace b4 := hide b4; replace hsz := hide hsz; replace ho := hide ho; replace eo := hide eo
      go_wp2_with (first
        | (at_builtin
           simp only [unhide eo]
           refine wpList_app _ rfl (.tmp 9) (.tmp 13) 28 rfl w.heap.size 5 i0 _ 1 1 Tryd.underlying28 hi0 hz0 hz1 hz2 rfl (Nat.succ_pos _) _ k ((leO n k).map u8v) rfl ((unhide o).alloc _) (some ⟨wr.heap.size, 0, none⟩) 1 1 (([x] : List UInt8).map u8v) rfl rfl (one_src wr x) (unhide ho) (unhide b3) (unhide b4) (le_alloc (unhide hsz)) ?_
           intro v4 w4 hown4 hg4
           have hb4 : Below w.heap.size w w4 := (unhide b).trans (bl_app (unhide hsz) (unhide o) hg4)
           obtain ⟨A4, c4, rfl⟩ := ownsRow_form hown4
           rw [← List.map_append, ← unhide hl1] at hown4
           clear hg4
           replace hown4 := hide hown4; replace hb4 := hide hb4)
        | fail)
      go_roundw
      case rel => exact ⟨k + 1, m / 256, by omega, by have hmb := unhide hmb; first | go_num | (congr 1; rw [IntKind.wrap_u64]; omega), by go_num, ⟨_, _, rfl⟩, hs, hown4, hb4⟩
      case measure => simp [intOf]; omega
    · obtain rfl : k = wd := by omega
      go_wp2
      go_ret
      exact ⟨_, _, rfl, unhide o, unhide b⟩
/-- What octets tell, the lowest one first. -/
def leN : List UInt8 → Nat
  | [] => 0
  | x :: l => x.toNat + 256 * leN l
theorem leN_lt (l : List UInt8) : leN l < 256 ^ l.length := by
  induction l with
  | nil => exact Nat.one_pos
  | cons x l ih =>
    have := x.toNat_lt
    rw [leN, List.length_cons, Nat.pow_succ]
    generalize 256 ^ l.length = z at *
    omega
theorem leN_drop (l : List UInt8) {k : Nat} (h : k < l.length) : leN (l.drop k) = (l[k]).toNat + 256 * leN (l.drop (k + 1)) := by
  rw [List.drop_eq_getElem_cons h]; rfl
set_option maxHeartbeats 1000000 in
theorem take_any (lo hi : Nat) (v : Value) (l : List UInt8) (w : World) (h : Bs lo hi w v l) (hl : l.length ≤ 6) :
    Calls Tryd.prog 34 #[v] w fun e w' => e = .returned (.int .u64 (leN l : Nat)) ∧ w = w' := by
  obtain ⟨A, c, rfl, h1, h2, h3⟩ := h
  have hz : leN (l.drop l.length) = 0 := by rw [List.drop_length]; rfl
  have hd : leN (l.drop 0) = leN l := by rw [List.drop_zero]
  have hlt := fun k => leN_lt (l.drop k)
  have hst := fun k (hk : k < l.length) => leN_drop l hk
  have hcell : ∀ k (hk : k < l.length), ∃ b o, A = some ⟨b, o, none⟩ ∧ w.cell? ⟨b, o + k, none⟩ = some (.int .u8 (l[k].toNat : Int)) := fun k hk => by
    obtain ⟨b, o, e, _, _, hc⟩ := h3 (by omega)
    exact ⟨b, o, e, hc k hk⟩
  obtain ⟨n, hn⟩ : ∃ n, n = l.length := ⟨_, rfl⟩
  rw [← hn] at hz h1 hl
  have w1 : IntKind.i64.wrap ((n : Int) - 1) = (n : Int) - 1 := IntWalk.i64_in _ (by omega)
  rw [← hn]
  replace hz := hide hz; replace hd := hide hd; replace hlt := hide hlt; replace hst := hide hst; replace hcell := hide hcell; replace hn := hide hn
  clear h3
  go_enter Tryd.func34, Tryd.ntmps34
  go_wp2
  go_loopw [3, 4] (fun s i wr => ∃ k m : Nat, k ≤ n ∧ s = .int .u64 m ∧ i = .int .i64 ((k : Int) - 1) ∧ Hid (m = leN (l.drop k)) ∧ w = wr) (fun _ i _ => ((intOf i) + 1).toNat)
  case atStart => exact ⟨n, 0, by omega, rfl, rfl, hide (unhide hz).symm, rfl⟩
  case round =>
    obtain ⟨k, m, hk, rfl, rfl, hm, rfl⟩ := hrel
    by_cases h0 : 0 < k
    · obtain ⟨j, rfl⟩ : ∃ j, k = j + 1 := ⟨k - 1, by omega⟩
      have hj : j < l.length := by rw [← unhide hn]; omega
      obtain ⟨b, o, rfl, hc⟩ := unhide hcell j hj
      have e1 : (((j + 1 : Nat) : Int) - 1) = (j : Int) := by omega
      rw [e1]
      have j1 : (0 : Int) ≤ (j : Int) := by omega
      have j2 : (j : Int) < (n : Int) := by omega
      have j3 : j < n := by omega
      have hs := unhide hst j hj
      have hml : m < 256 ^ (l.drop (j + 1)).length := by rw [unhide hm]; exact unhide hlt (j + 1)
      have hp : 256 ^ (l.drop (j + 1)).length ≤ 256 ^ 5 := Nat.pow_le_pow_right (by omega) (by rw [List.length_drop, ← unhide hn]; omega)
      have hx := (l[j]).toNat_lt
      generalize (l[j]).toNat = x at *
      have w2 : ((256 : Int) * (m : Int)) % 18446744073709551616 = ((256 * m : Nat) : Int) := by omega
      have w3 : (((256 * m : Nat) : Int) + (x : Int)) % 18446744073709551616 = ((256 * m + x : Nat) : Int) := by omega
      have w4 : ((x : Nat) : Int) % 18446744073709551616 = (x : Int) := by omega
      have w5 : IntKind.i64.wrap ((j : Int) - 1) = (j : Int) - 1 := IntWalk.i64_in _ (by omega)
      have hm2 : 256 * m + x = leN (l.drop j) := by rw [hs, ← unhide hm]; omega
      replace hm2 := hide hm2
      clear hs hml hp hx e1
      go_wp2_with fail
      go_roundw
      case rel => exact ⟨j, 256 * m + x, by omega, by simp, rfl, hm2, trivial⟩
      case measure => simp [intOf]
    · obtain rfl : k = 0 := by omega
      rw [unhide hd] at hm
      go_wp2
      go_ret
      exact ⟨ret_i rfl (by rw [unhide hm]), rfl⟩
end Go.Proofs.YtommlgdolahfbaaDoor
