import Derived.Test.YthmhhgodjpgjnaaW31
namespace Go.Proofs.Ythmhhgodjpgjnaa
open Go.RowKit

theorem Next_any (base g gc cc gt ct : Nat) (i : Int) (r : Rdr) (t : List Int) (w : World) (hW : Rdg base g gc cc gt ct w r t) (h : OkR r) (ht : okB t) (hl : t.length ≤ 1000000) (hu : r.used ≤ t.length) :
    Calls Try.prog 18 #[.pointer (some ⟨g, 0, none⟩), .int .i64 i] w fun e w' => e = .returned (.tuple #[.bool (nextR t r i).1, .int .i64 (nextR t r i).2.2]) ∧ Rdg base g gc cc gt ct w' (nextR t r i).2.1 t ∧ But [g, gc] w w' := by
  by_cases hi : 0 ≤ i ∧ i < r.c.length
  · obtain ⟨k, rfl⟩ : ∃ k : Nat, i = (k : Int) := ⟨i.toNat, by omega⟩
    cases hb : bitR r k
    · exact Next_false base g gc cc gt ct k r t w hW (by omega) h ht hl hu hb
    · exact Next_true base g gc cc gt ct k r t w hW (by omega) h ht hl hu hb
  · have e : nextR t r i = (false, r, 4) := by unfold nextR; rw [if_pos hi]
    rw [e]
    refine (Next_none base g gc cc gt ct i r t w hW hi).mono ?_
    rintro e w' ⟨rfl, rfl⟩
    exact ⟨rfl, hW, But.refl _ _⟩
theorem nextR_used {t : List Int} {r : Rdr} {i : Int} (hu : r.used ≤ t.length) : (nextR t r i).2.1.used ≤ t.length := by
  unfold nextR
  split
  · exact hu
  · split
    · split
      · simp only []; omega
      · exact hu
    · exact hu
theorem nextR_still {t : List Int} {r : Rdr} {i : Int} (h : (nextR t r i).2.2 ≠ 0) : (nextR t r i).2.1 = r ∧ (nextR t r i).1 = false := by
  unfold nextR at *
  split
  · exact ⟨rfl, rfl⟩
  · rename_i h1
    rw [if_neg h1] at h
    split
    · rename_i h2
      rw [if_pos h2] at h
      split
      · rename_i h3
        rw [if_pos h3] at h
        exact absurd rfl h
      · exact ⟨rfl, rfl⟩
    · rename_i h2
      rw [if_neg h2] at h
      exact absurd rfl h

abbrev Os (lo hi : Nat) (w : World) (v : Value) (l : List Int) : Prop := Rd 1 byc lo hi w v l
theorem byc_one : ∀ x, ∀ u ∈ byc x, u.oneCell' = true := by intro x u h; simp [byc] at h; subst h; rfl
theorem Os.open {lo hi : Nat} {w : World} {v : Value} {l : List Int} (h : Os lo hi w v l) : ∃ A c, v = .slice A l.length c ∧ l.length ≤ c ∧ c ≤ 9223372036854775807 ∧
    ∀ i (hi' : i < l.length), ∃ b off, A = some ⟨b, off, none⟩ ∧ lo ≤ b ∧ b < hi ∧ w.cell? ⟨b, off + i, none⟩ = some (.int .u8 l[i]) := by
  obtain ⟨A, c, e, h1, h2, h3⟩ := h.open1
  exact ⟨A, c, e, h1, h2, fun i hi => by obtain ⟨b, off, e, g1, g2, g3⟩ := h3 i hi; exact ⟨b, off, e, g1, g2, g3 _ rfl⟩⟩

set_option maxHeartbeats 400000 in
/-- bytes.Clone of at least one octet. -/
theorem Clone_any (lo : Nat) (v : Value) (l : List Int) (w : World) (h : Os lo w.heap.size w v l) (hL : l.length ≤ 1000000) (h0 : 0 < l.length) :
    Calls Try.prog 33 #[v] w fun e w' => ∃ g c, e = .returned (.slice (some ⟨g, 0, none⟩) l.length c) ∧ w'.ownsRow w.heap.size 5 1 (.slice (some ⟨g, 0, none⟩) l.length c) l.length (l.flatMap byc) ∧ Below w.heap.size w w' := by
  obtain ⟨i0, hi0, hz0, hz1, hz2⟩ := info5'
  have h' := h
  obtain ⟨A, c, rfl, h1, h2, h3⟩ := h'
  have hs := Rd.src byc_len h
  obtain ⟨b, off, hA, hrest⟩ := h3 h0
  clear hrest
  clear h h3
  have q23 : ∀ (w : World) (a : Option Addr) (n c : Nat), (binOp .eql 23 (.slice a n c) (.slice none 0 0)).run Try.prog w = .ok (.bool a.isNone) w := fun w a n c => Lib.run_eql_slice_nil w _ _ a n c 0 0 Try.underlying23
  obtain ⟨xs, hxs⟩ : ∃ xs, xs = l.flatMap byc := ⟨_, rfl⟩
  have hxl : xs.length = l.length * 1 := by rw [hxs, flat_len byc_len]
  have hx1 : ∀ u ∈ xs, u.oneCell' = true := by rw [hxs]; exact flat_one byc_one l
  rw [← hxs] at hs ⊢
  clear hxs
  generalize l.length = n at *
  have HS := hs.2
  have hb1 : 0 + n ≤ maxLen := by simp only [maxLen]; omega
  have hb2 : (0 + n) * 1 ≤ 140737488355328 := by omega
  subst hA
  have hz : w.heap.size ≤ (w.alloc (.cells #[] 5)).heap.size := by simp
  have hSA := HS.below ((Below.refl w.heap.size w).alloc (Nat.le_refl _) (.cells #[] 5))
  replace hxl := hide hxl; replace hx1 := hide hx1; replace hSA := hide hSA; replace hz := hide hz
  clear hs HS
  go_enter Try.func33, Try.ntmps33
  go_wp2_with (first
    | (at_builtin
       refine wpList_app _ rfl (.tmp 5) (.tmp 6) 23 rfl w.heap.size 5 i0 _ 1 1 Try.underlying23 hi0 hz0 hz1 hz2 rfl (Nat.succ_pos _) _ 0 [] rfl (World.ownsRow_lit w #[] 0 (Nat.le_refl _) (Nat.zero_le _) rfl) (some ⟨b, off, none⟩) n c xs rfl (unhide hxl) (unhide hSA) (unhide hx1) hb1 hb2 (unhide hz) ?_
       intro v' w1 hown hg))
  go_ret
  rw [Nat.zero_add, List.nil_append] at hown
  obtain ⟨A', c', rfl⟩ := ownsRow_form hown
  obtain ⟨g', _, e', _, _⟩ := own_pos hown h0
  subst e'
  refine ⟨g', c', rfl, hown, ?_⟩
  refine bl_grown ((Below.refl _ _).alloc (Nat.le_refl _) _) hg ?_
  intro k hk
  simp [Act.eval, Value.ownBlock] at hk
  omega
end Go.Proofs.Ythmhhgodjpgjnaa
