import Derived.Test.YtnjepbehfioclaaP7
namespace Go.Proofs.Ytnjepbehfioclaa
open Go.RowKit
attribute [local go_sem] bz_size bz_toList run_store_float
set_option maxRecDepth 100000

/-! ### slices of octets -/
theorem elem27 : Try.prog.underlying 27 = some (.slice (Try.prog.elem 27)) := by kernel_rfl
theorem size5e : ∀ W, (sizeOf (Try.prog.elem 27)).run Try.prog W = .ok 1 W := fun W => by kernel_rfl
theorem bslice_lh (A : Option Addr) (n c i j : Nat) (hij : i ≤ j) (hj : j ≤ c) (W : World) :
    (Instr.slice 27 (.slice A n c) (some (.int .i64 (i : Int))) (some (.int .i64 (j : Int))) none).run Try.prog W = .ok (sliced A i j c 1) W := by
  rw [run_slice_lh (P := Try.prog) W 27 A n c elem27 .i64 .i64 i j (by omega) (by omega) (by omega), size5e]
  simp [Result.andThen]
theorem bslice_h (A : Option Addr) (n c j : Nat) (hj : j ≤ c) (W : World) :
    (Instr.slice 27 (.slice A n c) none (some (.int .i64 (j : Int))) none).run Try.prog W = .ok (sliced A 0 j c 1) W := by
  rw [run_slice_h (P := Try.prog) W 27 A n c elem27 .i64 j (by omega) (by omega), size5e]
  simp [Result.andThen]
theorem bslice_l (A : Option Addr) (n c i : Nat) (hi : i ≤ n) (W : World) :
    (Instr.slice 27 (.slice A n c) (some (.int .i64 (i : Int))) none none).run Try.prog W = .ok (sliced A i n c 1) W := by
  rw [run_slice_l (P := Try.prog) W 27 A n c elem27 .i64 i (by omega) (by omega), size5e]
  simp [Result.andThen]
theorem addr_add (b off i : Nat) : (⟨b, off, none⟩ : Addr).add i = ⟨b, off + i, none⟩ := by
  unfold Addr.add
  split
  · rename_i h; subst h; rfl
  · rfl
theorem Bs.part {lo hi : Nat} {w : World} {A : Option Addr} {n c : Nat} {l : List UInt8} (h : Bs lo hi w (.slice A n c) l) (i j : Nat) (hij : i ≤ j) (hj : j ≤ l.length) :
    ∃ A', sliced A i j c 1 = .slice A' (j - i) (c - i) ∧ Bs lo hi w (.slice A' (j - i) (c - i)) ((l.drop i).take (j - i)) := by
  obtain ⟨A0, c0, e, h1, h2, h3⟩ := h
  injection e with e1 e2 e3
  subst e1 e2 e3
  refine ⟨if c = i then A else A.map (·.add (i * 1)), rfl, ?_⟩
  have hlen : ((l.drop i).take (j - i)).length = j - i := by rw [List.length_take, List.length_drop]; omega
  refine ⟨_, c - i, by rw [hlen], by omega, by omega, fun h0 => ?_⟩
  obtain ⟨b, off, rfl, hb, hb', hc⟩ := h3 (by omega)
  refine ⟨b, off + i, ?_, hb, hb', fun k hk j' u hu => ?_⟩
  · rw [if_neg (by omega), Nat.mul_one, Option.map_some, addr_add]
  · rw [hlen] at hk
    have := hc (i + k) (by omega) j' u (by simpa using hu)
    rw [show off + (i + k) * 1 + j' = off + i + k * 1 + j' by omega] at this
    exact this
/-- A part of a slice: what the operation answers, and what that reads as. -/
theorem Bs.cut_lh {lo hi : Nat} {w : World} {A : Option Addr} {n c : Nat} {l : List UInt8} (h : Bs lo hi w (.slice A n c) l) (i j : Nat) (I J : Int) (hI : I = (i : Int)) (hJ : J = (j : Int)) (hij : i ≤ j) (hj : j ≤ l.length) :
    ∃ A' c', (∀ W, (Instr.slice 27 (.slice A n c) (some (.int .i64 I)) (some (.int .i64 J)) none).run Try.prog W = .ok (.slice A' (j - i) c') W) ∧ Bs lo hi w (.slice A' (j - i) c') ((l.drop i).take (j - i)) := by
  subst hI hJ
  obtain ⟨A', e, hb⟩ := h.part i j hij hj
  obtain ⟨A0, c0, e0, h1, _⟩ := h
  injection e0 with _ _ e3
  exact ⟨A', c - i, fun W => by rw [bslice_lh A n c i j hij (by omega), e], hb⟩
theorem Bs.cut_h {lo hi : Nat} {w : World} {A : Option Addr} {n c : Nat} {l : List UInt8} (h : Bs lo hi w (.slice A n c) l) (j : Nat) (J : Int) (hJ : J = (j : Int)) (hj : j ≤ l.length) :
    ∃ A' c', (∀ W, (Instr.slice 27 (.slice A n c) none (some (.int .i64 J)) none).run Try.prog W = .ok (.slice A' j c') W) ∧ Bs lo hi w (.slice A' j c') (l.take j) := by
  subst hJ
  obtain ⟨A', e, hb⟩ := h.part 0 j (Nat.zero_le _) hj
  obtain ⟨A0, c0, e0, h1, _⟩ := h
  injection e0 with _ _ e3
  exact ⟨A', c, fun W => by rw [bslice_h A n c j (by omega), e]; rfl, hb⟩
theorem Bs.cut_l {lo hi : Nat} {w : World} {A : Option Addr} {n c : Nat} {l : List UInt8} (h : Bs lo hi w (.slice A n c) l) (i : Nat) (I : Int) (hI : I = (i : Int)) (hi' : i ≤ l.length) :
    ∃ A' c', (∀ W, (Instr.slice 27 (.slice A n c) (some (.int .i64 I)) none none).run Try.prog W = .ok (.slice A' (l.length - i) c') W) ∧ Bs lo hi w (.slice A' (l.length - i) c') (l.drop i) := by
  subst hI
  obtain ⟨A', e, hb⟩ := h.part i l.length hi' (Nat.le_refl _)
  obtain ⟨A0, c0, e0, h1, _⟩ := h
  injection e0 with _ e2 e3
  subst e2
  rw [List.take_of_length_le (by simp)] at hb
  exact ⟨A', c - i, fun W => by rw [bslice_l A _ c i hi', e], hb⟩

/-! ### octets as a text -/
theorem strOf_bz (l : List UInt8) : strOfNums (l.map n8) = bz l := by
  have h : (strOfNums (l.map n8)).toList = l := by
    refine (Lib.strOfNums_toList (l.map n8)).trans ?_
    unfold Lib.bytesOf
    rw [List.map_map]
    conv => rhs; rw [← List.map_id l]
    apply List.map_congr_left
    intro x _
    simp [n8]
  generalize strOfNums (l.map n8) = s at *
  obtain ⟨⟨x⟩⟩ := s
  have e : (ByteArray.mk ⟨x⟩).toList = x := ByteArray.toList_mk x
  rw [e] at h
  subst h
  rfl
theorem Bs.convert {lo hi : Nat} {w : World} {v : Value} {l : List UInt8} (h : Bs lo hi w v l) : (convert 27 9 v).run Try.prog w = .ok (.string (bz l)) w := by
  rw [← strOf_bz]
  obtain ⟨A, c, rfl, h1, h2, h3⟩ := h.openB
  rcases Nat.eq_zero_or_pos l.length with h0 | h0
  · obtain rfl : l = [] := List.eq_nil_of_length_eq_zero h0
    rw [run_convert_bytes_string w 27 9 5 _ _ c Try.underlying27 Try.underlying5 Try.underlying9]
    cases A <;> simp [Conv.bytesToString, loadCells, loadCellsFrom, strOfNums]
    all_goals rfl
  · obtain ⟨b, o, rfl, _, _, hc⟩ := h3 0 h0
    exact run_convert_bytes_arg (P := Try.prog) w 27 5 Try.underlying27 Try.underlying5 b o l.length c (l.map n8) (by simp) (fun i hi => by
      have hi' : i < l.length := by simpa using hi
      obtain ⟨b', o', e, _, _, hx⟩ := h3 i hi'
      injection e with e
      injection e with e1 e2
      subst e1 e2
      rw [hx]; simp [List.getD, List.getElem?_eq_getElem hi']) 9 Try.underlying9
theorem bz_beq (a b : List UInt8) : (a == b) = decide (a = b) := by rw [Bool.eq_iff_iff]; simp
set_option maxHeartbeats 1000000 in
theorem sameBytes_any (lo hi lo' hi' : Nat) (v v' : Value) (a b : List UInt8) (w : World) (h : Bs lo hi w v a) (h' : Bs lo' hi' w v' b) :
    Calls Try.prog 18 #[v, v'] w fun e w' => e = .returned (.bool (a == b)) ∧ w = w' := by
  have e1 := h.convert
  have e2 := h'.convert
  clear h h'
  go_enter Try.func18, Try.ntmps18
  go_wp2
  go_ret
  exact ⟨ret_b rfl rfl, rfl⟩
end Go.Proofs.Ytnjepbehfioclaa
