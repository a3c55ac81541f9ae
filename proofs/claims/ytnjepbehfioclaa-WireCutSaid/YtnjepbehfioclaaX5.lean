import Derived.Test.YtnjepbehfioclaaX4
import Derived.IntWalk
namespace Go.Proofs.Ytnjepbehfioclaa
open Go.RowKit
attribute [local go_sem] bz_size bz_toList

theorem info_parts {t size bytes : Nat} {z : Value} (h : (Try.prog.info? t).map (fun i => (i.zero, i.size, i.bytes)) = some (some z, size, bytes)) : ∃ i, Try.prog.info? t = some i ∧ i.zero = some z ∧ i.size = size ∧ i.bytes = bytes := by
  cases hi : Try.prog.info? t with
  | none => rw [hi] at h; cases h
  | some i =>
    rw [hi] at h
    simp at h
    exact ⟨i, rfl, h.1, h.2.1, h.2.2⟩

set_option maxHeartbeats 400000 in
theorem octets_any (l : List UInt8) (hl : l.length ≤ 1000) (w : World) : Calls Try.prog 52 #[.string (bz l)] w fun e w' => e = .returned (.bool (ofName l)) ∧ w = w' := by
  go_enter Try.func52, Try.ntmps52
  go_wp2
  go_loop [6] (fun i => ∃ k : Nat, k ≤ l.length ∧ i = .int .i64 k ∧ Hid (ofName (l.take k) = true)) (fun i => l.length - (intOf i).toNat)
  case atStart => exact ⟨0, Nat.zero_le _, rfl, hide rfl⟩
  case round =>
    obtain ⟨k, hk, rfl, ho⟩ := hrel
    by_cases hlt : k < l.length
    · have hs : k < (bz l).size := hlt
      have F := fun h => ofName_bad hlt (okC_false h)
      have G := fun h1 h2 => ofName_snoc hlt (unhide ho) (okC_true h1 h2)
      replace F := hide F
      replace G := hide G
      obtain ⟨c, hcc⟩ : ∃ c : Int, c = (((bz l)[k]).toNat : Int) := ⟨_, rfl⟩
      have hc : c = ((l[k]'hlt).toNat : Int) := hcc
      by_cases h47 : c = 47
      · have G' : Hid (ofName (l.take (k + 1)) = true) := hide (unhide G (by omega) (by omega))
        have e1 : ((((bz l)[k]).toNat : Int) != 47) = false := by rw [← hcc, h47]; rfl
        clear hc hcc h47 F G
        go_wp2
        go_round
        case rel => exact ⟨k + 1, by omega, by go_num, G'⟩
        case measure => simp [intOf]; omega
      · have e1 : ((((bz l)[k]).toNat : Int) != 47) = true := by rw [← hcc, bne_iff_ne]; exact h47
        by_cases hb : c < 33 ∨ 126 < c
        · have F' : Hid (ofName l = false) := hide (unhide F (by omega))
          rcases hb with hb | hb
          · have e2 : ((((bz l)[k]).toNat : Int) < 33) := by rw [← hcc]; exact hb
            clear hc hcc h47 F G hb
            go_wp2
            go_ret
            exact ⟨ret_b rfl (unhide F').symm, rfl⟩
          · have e2 : ¬ ((((bz l)[k]).toNat : Int) < 33) := by rw [← hcc]; omega
            have e3 : (126 < (((bz l)[k]).toNat : Int)) := by rw [← hcc]; omega
            clear hc hcc h47 F G hb
            go_wp2
            go_ret
            exact ⟨ret_b rfl (unhide F').symm, rfl⟩
        · have G' : Hid (ofName (l.take (k + 1)) = true) := hide (unhide G (by omega) (by omega))
          have e2 : ¬ ((((bz l)[k]).toNat : Int) < 33) := by rw [← hcc]; omega
          have e3 : ¬ (126 < (((bz l)[k]).toNat : Int)) := by rw [← hcc]; omega
          clear hc hcc h47 F G hb
          go_wp2
          go_round
          case rel => exact ⟨k + 1, by omega, by go_num, G'⟩
          case measure => simp [intOf]; omega
    · obtain rfl : k = l.length := by omega
      have H := unhide ho
      rw [List.take_length] at H
      clear ho hlt
      replace H := hide H
      go_wp2
      go_ret
      exact ⟨ret_b rfl (unhide H).symm, rfl⟩

theorem src_one (W : World) (x : Value) (t : TypeId) (g : Nat) (hg : g = W.heap.size) : SrcOk (W.alloc (.cells #[x] t)) (some ⟨g, 0, none⟩) 1 [x] := by
  subst hg
  exact fun _ => ⟨_, rfl, cell_one_new _ _ _⟩
theorem strs_snoc (out : List (List UInt8)) (x : List UInt8) : strs out ++ [.string (bz x)] = strs (out ++ [x]) := by simp [svc]
/-- Parts so far, and what is left from f on. -/
theorem parts_hit {l : List UInt8} {out : List (List UInt8)} {f k : Nat} (hk : k < l.length) (hf : f ≤ k) (h : parts l = out ++ parts (l.drop f)) (hn : 47 ∉ (l.drop f).take (k - f)) (hc : l[k] = 47) :
    parts l = (out ++ [(l.drop f).take (k - f)]) ++ parts (l.drop (k + 1)) ∧ 47 ∉ (l.drop (k + 1)).take (k + 1 - (k + 1)) := by
  have e : l.drop f = (l.drop f).take (k - f) ++ 47 :: l.drop (k + 1) := by
    conv => lhs; rw [← List.take_append_drop (k - f) (l.drop f)]
    rw [List.drop_drop, show f + (k - f) = k by omega, List.drop_eq_getElem_cons hk, hc]
  refine ⟨?_, by simp⟩
  rw [h, List.append_assoc]
  congr 1
  conv => lhs; rw [e]
  rw [parts_slash _ _ hn]; rfl
theorem parts_miss {l : List UInt8} {f k : Nat} (hk : k < l.length) (hf : f ≤ k) (hn : 47 ∉ (l.drop f).take (k - f)) (hc : l[k] ≠ 47) : 47 ∉ (l.drop f).take (k + 1 - f) := by
  have e : (l.drop f).take (k + 1 - f) = (l.drop f).take (k - f) ++ [l[k]] := by
    rw [show k + 1 - f = (k - f) + 1 by omega, List.take_succ_eq_append_getElem (by rw [List.length_drop]; omega), List.getElem_drop]
    congr 2
    congr 1
    omega
  rw [e]
  simp only [List.mem_append, List.mem_singleton, not_or]
  exact ⟨hn, fun h => hc h.symm⟩
theorem parts_last {l : List UInt8} {out : List (List UInt8)} {f : Nat} (h : parts l = out ++ parts (l.drop f)) (hn : 47 ∉ (l.drop f).take (l.length - f)) : parts l = out ++ [l.drop f] := by
  rw [List.take_of_length_le (by simp)] at hn
  rw [h, parts_noslash _ hn]

set_option maxHeartbeats 1000000 in
theorem refParts_any (l : List UInt8) (hl : l.length ≤ 1000) (w : World) : Calls Try.prog 51 #[.string (bz l)] w fun e w' => (∃ A c, e = .returned (.slice A (parts l).length c) ∧ OwnS w' w.heap.size (.slice A (parts l).length c) (parts l)) ∧ Below w.heap.size w w' := by
  obtain ⟨i0, hi, hz0, hz1, hz2⟩ := info_parts info9
  go_enter Try.func51, Try.ntmps51
  go_wp2
  go_loopw [3, 4, 8] (fun o fr i wr => ∃ (k f : Nat) (out : List (List UInt8)) (A : Option Addr) (c : Nat), k ≤ l.length ∧ f ≤ k ∧ o = .slice A out.length c ∧ fr = .int .i64 f ∧ i = .int .i64 k ∧ Hid (OwnS wr w.heap.size (.slice A out.length c) out) ∧ Hid (parts l = out ++ parts (l.drop f)) ∧ Hid (47 ∉ (l.drop f).take (k - f)) ∧ out.length ≤ f ∧ Hid (Below w.heap.size w wr)) (fun _ _ i _ => l.length - (intOf i).toNat)
  case atStart => exact ⟨0, 0, [], none, 0, Nat.zero_le _, Nat.le_refl _, rfl, rfl, rfl, hide (World.ownsRow_nil _ _ _ _), hide rfl, hide (by simp), Nat.le_refl _, hide (Below.refl _ _)⟩
  case round =>
    obtain ⟨k, f, out, A, c, hk, hf, rfl, rfl, rfl, ho, hp, hn, hof, hB⟩ := hrel
    by_cases hlt : k < l.length
    · have hs : k < (bz l).size := hlt
      obtain ⟨z, hz⟩ : ∃ z : Int, z = (((bz l)[k]).toNat : Int) := ⟨_, rfl⟩
      have hz' : z = ((l[k]'hlt).toNat : Int) := hz
      by_cases h47 : z = 47
      · have hc47 : l[k] = 47 := UInt8.toNat_inj.1 (by have h1 : (l[k].toNat : Int) = 47 := by omega
                                                       have : l[k].toNat = 47 := by omega
                                                       rw [this]; rfl)
        obtain ⟨hp', hn'⟩ := parts_hit hlt hf (unhide hp) (unhide hn) hc47
        have e1 : ((((bz l)[k]).toNat : Int) == 47) = true := by rw [← hz, h47]; rfl
        have ex : (bz l).extract f k = bz ((l.drop f).take (k - f)) := bz_ext l f k
        obtain ⟨x, hx⟩ : ∃ x, x = (l.drop f).take (k - f) := ⟨_, rfl⟩
        rw [← hx] at hp' ex
        clear hz hz' h47 hc47 hx hp hn
        replace hp' := hide hp'; replace hn' := hide hn'; replace ex := hide ex
        have c1 : (f : Int) ≤ (k : Int) := by omega
        have c2 : (k : Int) ≤ (l.length : Int) := by omega
        have u1 : out.length + 1 ≤ maxLen := by simp only [maxLen]; omega
        have u2 : (out.length + 1) * 16 ≤ 140737488355328 := by omega
        replace u1 := hide u1; replace u2 := hide u2
        go_wp2_with (first
          | (at_builtin
             refine wpList_app _ rfl (.tmp 15) (.tmp 20) 74 rfl w.heap.size 9 i0 _ 1 16 Try.underlying74 hi hz0 hz1 hz2 rfl (Nat.succ_pos _) _ out.length (strs out) rfl ((unhide ho).alloc _) (some ⟨wr.heap.size, 0, none⟩) 1 1 [.string ((bz l).extract f k)] rfl rfl (src_one _ _ _ _ rfl) (by simp [Value.oneCell']) (unhide u1) (unhide u2) (by have := (unhide hB).size; simp; omega) ?_
             intro v3 w3 o3 hg3
             obtain ⟨A3, c3, rfl⟩ := ownsRow_form o3
             have B3 := ((unhide hB).alloc (unhide hB).size _).grown hg3 (by have := (unhide hB).size; simp; omega) (own_base (unhide ho))
             replace B3 := hide B3; replace o3 := hide o3)
          | fail)
        have HO : OwnS w3 w.heap.size (.slice A3 (out ++ [x]).length c3) (out ++ [x]) := by
          have := unhide o3
          rw [unhide ex, strs_snoc] at this
          simpa [OwnS] using this
        go_roundw
        case rel => exact ⟨k + 1, k + 1, out ++ [x], A3, c3, by omega, Nat.le_refl _, by simp, by go_num, by go_num, hide HO, hp', hn', by simp; omega, B3⟩
        case measure => simp [intOf]; omega
      · have hc47 : l[k] ≠ 47 := fun e => by
          have h1 := congrArg UInt8.toNat e
          have h2 : (47 : UInt8).toNat = 47 := rfl
          rw [h2] at h1
          exact h47 (by rw [hz']; exact congrArg Int.ofNat h1)
        have hn' := parts_miss hlt hf (unhide hn) hc47
        have e1 : ((((bz l)[k]).toNat : Int) == 47) = false := by rw [← hz]; exact beq_eq_false_iff_ne.2 h47
        clear hz hz' h47 hc47 hn
        replace hn' := hide hn'
        go_wp2
        go_roundw
        case rel => exact ⟨k + 1, f, out, A, c, by omega, by omega, rfl, rfl, by go_num, ho, hp, hn', hof, hB⟩
        case measure => simp [intOf]; omega
    · obtain rfl : k = l.length := by omega
      have hp' := parts_last (unhide hp) (unhide hn)
      have ex : (bz l).extract f l.length = bz (l.drop f) := by rw [bz_ext, List.take_of_length_le (by simp)]
      obtain ⟨x, hx⟩ : ∃ x, x = l.drop f := ⟨_, rfl⟩
      rw [← hx] at hp' ex
      clear hx hp hn hlt hk
      replace hp' := hide hp'; replace ex := hide ex
      have c1 : (f : Int) ≤ (l.length : Int) := by omega
      have u1 : out.length + 1 ≤ maxLen := by simp only [maxLen]; omega
      have u2 : (out.length + 1) * 16 ≤ 140737488355328 := by omega
      replace u1 := hide u1; replace u2 := hide u2
      go_wp2_with (first
        | (at_builtin
           refine wpList_app _ rfl (.tmp 25) (.tmp 29) 74 rfl w.heap.size 9 i0 _ 1 16 Try.underlying74 hi hz0 hz1 hz2 rfl (Nat.succ_pos _) _ out.length (strs out) rfl ((unhide ho).alloc _) (some ⟨wr.heap.size, 0, none⟩) 1 1 [.string ((bz l).extract f l.length)] rfl rfl (src_one _ _ _ _ rfl) (by simp [Value.oneCell']) (unhide u1) (unhide u2) (by have := (unhide hB).size; simp; omega) ?_
           intro v3 w3 o3 hg3
           obtain ⟨A3, c3, rfl⟩ := ownsRow_form o3
           have B3 := ((unhide hB).alloc (unhide hB).size _).grown hg3 (by have := (unhide hB).size; simp; omega) (own_base (unhide ho))
           replace B3 := hide B3; replace o3 := hide o3)
        | fail)
      have HO : OwnS w3 w.heap.size (.slice A3 (parts l).length c3) (parts l) := by
        have := unhide o3
        rw [unhide ex, strs_snoc] at this
        rw [unhide hp']
        simpa [OwnS] using this
      go_ret
      exact ⟨⟨A3, c3, ret_v (by rw [unhide hp']; simp), HO⟩, unhide B3⟩

/-! ### the reference's join -/
theorem jn_take_succ {k : List (List UInt8)} {i : Nat} (hi : i < k.length) : jn (k.take (i + 1)) = if i = 0 then k[i] else jn (k.take i) ++ 47 :: k[i] := by
  rw [List.take_succ_eq_append_getElem hi]
  by_cases h : i = 0
  · subst h; simp [jn, tailJ]
  · rw [if_neg h, jn_snoc _ _ (by intro e; have := congrArg List.length e; rw [List.length_take, List.length_nil] at this; omega)]
theorem jn_take_le (k : List (List UInt8)) (i : Nat) : (jn (k.take i)).length ≤ (jn k).length := by
  by_cases h : k.take i = []
  · rw [h]; simp [jn]
  · conv => rhs; rw [← List.take_append_drop i k]
    rw [jn_append _ _ h]; simp

end Go.Proofs.Ytnjepbehfioclaa
