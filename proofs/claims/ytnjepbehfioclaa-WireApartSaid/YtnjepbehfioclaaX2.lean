import Derived.Test.YtnjepbehfioclaaBase
namespace Go.Proofs.Ytnjepbehfioclaa
open Go.RowKit
attribute [local go_sem] bz_size bz_toList

theorem bz_get (l : List UInt8) (k : Nat) (h : k < l.length) : (bz l)[k]'h = l[k] := rfl
theorem ofName_bad {l : List UInt8} {k : Nat} (h : k < l.length) (hb : okC l[k] = false) : ofName l = false := by
  unfold ofName
  rw [List.all_eq_false]
  exact ⟨l[k], List.getElem_mem h, by simp [hb]⟩
theorem ofName_snoc {l : List UInt8} {k : Nat} (h : k < l.length) (ho : ofName (l.take k) = true) (hb : okC l[k] = true) : ofName (l.take (k + 1)) = true := by
  unfold ofName at *
  rw [List.take_succ_eq_append_getElem h, List.all_append, ho]
  simp [hb]
theorem okC_false {c : UInt8} (h : (c.toNat : Int) < 33 ∨ 126 < (c.toNat : Int)) : okC c = false := by
  unfold okC
  rw [Bool.and_eq_false_iff]
  rcases h with h | h
  · left; simp; omega
  · right; simp; omega
theorem okC_true {c : UInt8} (h1 : 33 ≤ (c.toNat : Int)) (h2 : (c.toNat : Int) ≤ 126) : okC c = true := by
  unfold okC
  rw [Bool.and_eq_true]
  constructor <;> simp <;> omega

set_option maxHeartbeats 400000 in
theorem ofName_any (l : List UInt8) (hl : l.length ≤ 1000) (w : World) : Calls Try.prog 65 #[.string (bz l)] w fun e w' => e = .returned (.bool (ofName l)) ∧ w = w' := by
  go_enter Try.func65, Try.ntmps65
  go_wp2
  go_loop [6] (fun i => ∃ k : Nat, k ≤ l.length ∧ i = .int .i64 k ∧ Hid (ofName (l.take k) = true)) (fun i => l.length - (intOf i).toNat)
  case atStart => exact ⟨0, Nat.zero_le _, rfl, hide rfl⟩
  case round =>
    obtain ⟨k, hk, rfl, ho⟩ := hrel
    by_cases hlt : k < l.length
    · have hs : k < (bz l).size := hlt
      have F := fun h => ofName_bad hlt (okC_false h)
      have G := fun h1 h2 => ofName_snoc hlt (unhide ho) (okC_true h1 h2)
      replace F := hide F
      replace G := hide G
      go_wp2
      · go_ret
        exact ⟨ret_b rfl (unhide F ‹_›).symm, rfl⟩
      · go_round
        case rel =>
          rename_i h
          exact ⟨k + 1, by omega, by go_num, hide (unhide G h.1 h.2)⟩
        case measure => simp [intOf]; omega
      · go_ret
        exact ⟨ret_b rfl (unhide F (Or.inl ‹_›)).symm, rfl⟩
    · obtain rfl : k = l.length := by omega
      have H := unhide ho
      rw [List.take_length] at H
      clear ho hlt
      replace H := hide H
      go_wp2
      go_ret
      exact ⟨ret_b rfl (unhide H).symm, rfl⟩

/-! ### slices of texts: a row of the call's own, cut -/
abbrev strs (k : List (List UInt8)) : List Value := k.flatMap svc
def OwnS (w : World) (base : Nat) (v : Value) (k : List (List UInt8)) : Prop := w.ownsRow base 9 1 v k.length (strs k)
theorem strs_len (k : List (List UInt8)) : (strs k).length = k.length := by rw [flat_len svc_len, Nat.mul_one]
theorem strs_take (k : List (List UInt8)) (n : Nat) : strs (k.take n) = (strs k).take n := by
  induction k generalizing n with
  | nil => simp
  | cons x k ih =>
    cases n with
    | zero => simp
    | succ n =>
      rw [List.take_succ_cons]
      show svc x ++ strs (k.take n) = (svc x ++ strs k).take (n + 1)
      rw [ih]
      simp [svc]
theorem elem38 : Try.prog.underlying 74 = some (.slice (Try.prog.elem 74)) := by kernel_rfl
theorem size9e : ∀ W, (sizeOf (Try.prog.elem 74)).run Try.prog W = .ok 1 W := fun W => by kernel_rfl
theorem slice_lh (A : Option Addr) (n c i j : Nat) (hij : i ≤ j) (hj : j ≤ c) (W : World) :
    (Instr.slice 74 (.slice A n c) (some (.int .i64 (i : Int))) (some (.int .i64 (j : Int))) none).run Try.prog W = .ok (sliced A i j c 1) W := by
  rw [run_slice_lh (P := Try.prog) W 74 A n c elem38 .i64 .i64 i j (by omega) (by omega) (by omega), size9e]
  simp [Result.andThen]
theorem slice_h (A : Option Addr) (n c j : Nat) (hj : j ≤ c) (W : World) :
    (Instr.slice 74 (.slice A n c) none (some (.int .i64 (j : Int))) none).run Try.prog W = .ok (sliced A 0 j c 1) W := by
  rw [run_slice_h (P := Try.prog) W 74 A n c elem38 .i64 j (by omega) (by omega), size9e]
  simp [Result.andThen]
/-- The beginning of a row of the call's own is one. -/
theorem own_cut {w : World} {base : Nat} {A : Option Addr} {m c : Nat} {l : List (List UInt8)} (h : OwnS w base (.slice A m c) l) (n : Nat) (J : Int) (hJ : J = (n : Int)) (hn : n ≤ l.length) :
    ∃ A' c', (∀ W, (Instr.slice 74 (.slice A m c) none (some (.int .i64 J)) none).run Try.prog W = .ok (.slice A' n c') W) ∧ OwnS w base (.slice A' n c') (l.take n) ∧ ((.slice A' n c' : Value).ownBlock = (.slice A m c : Value).ownBlock) := by
  subst hJ
  obtain ⟨h1, h2⟩ := h
  have hlen : (l.take n).length = n := by rw [List.length_take]; omega
  rcases h2 with ⟨e, h0⟩ | ⟨g, cap, cur, e, hb, hg, hnc, hcm, hcs, htake⟩
  · injection e with e1 e2 e3
    subst e1 e2 e3
    obtain rfl : n = 0 := by omega
    refine ⟨none, 0, fun W => by rw [slice_h none 0 0 0 (by omega)]; rfl, ?_, rfl⟩
    have : l.take 0 = [] := rfl
    rw [this]
    exact World.ownsRow_nil _ _ _ _
  · injection e with e1 e2 e3
    subst e1 e2 e3
    refine ⟨some ⟨g, 0, none⟩, c, fun W => by rw [slice_h _ _ c n (by omega)]; simp [sliced, Addr.add], ?_, rfl⟩
    unfold OwnS
    rw [hlen, strs_take]
    refine ⟨by rw [List.length_take, strs_len]; omega, .inr ⟨g, c, cur, rfl, hb, hg, by omega, hcm, hcs, ?_⟩⟩
    rw [Nat.mul_one] at htake ⊢
    rw [← htake, List.take_take, Nat.min_eq_left hn]
theorem Ss.part {lo hi : Nat} {w : World} {A : Option Addr} {n c : Nat} {l : List (List UInt8)} (h : Ss lo hi w (.slice A n c) l) (j : Nat) (hj : j ≤ l.length) :
    ∃ A', sliced A 0 j c 1 = .slice A' j c ∧ Ss lo hi w (.slice A' j c) (l.take j) := by
  obtain ⟨A0, c0, e, h1, h2, h3⟩ := h
  injection e with e1 e2 e3
  subst e1 e2 e3
  have hlen : (l.take j).length = j := by rw [List.length_take]; omega
  refine ⟨if c = 0 then A else A.map (·.add (0 * 1)), rfl, ?_⟩
  refine ⟨_, c, by rw [hlen], by omega, h2, fun h0 => ?_⟩
  obtain ⟨b, off, rfl, g1, g2, g3⟩ := h3 (by omega)
  refine ⟨b, off, by rw [if_neg (by omega), Option.map_some]; simp [Addr.add], g1, g2, fun i hi k u hu => ?_⟩
  have hi' : i < l.length := by omega
  refine g3 i hi' k u ?_
  rw [List.getElem_take] at hu
  exact hu
theorem OwnS.ss {w : World} {base : Nat} {v : Value} {k : List (List UInt8)} (h : OwnS w base v k) : Ss base w.heap.size w v k := Rd.of_own svc_len (by decide) h
end Go.Proofs.Ytnjepbehfioclaa
