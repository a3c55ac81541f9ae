import Derived.Test.YtkgfmiicfegnlaaV9
namespace Go.Proofs.Ytkgfmiicfegnlaa
open Go.RowKit
attribute [local go_sem] bz_size bz_toList run_store_float
set_option maxRecDepth 100000

def fB : Fl := ⟨[98], 0, 0, 0, 0, 0⟩
def fA : Fl := ⟨[97], 0, 0, 0, 0, 0⟩
theorem smF_a : SmF fA := ⟨by decide, by decide⟩
theorem smF_b : SmF fB := ⟨by decide, by decide⟩
theorem put_b : putR [] fB = ([fB], 0) := by
  rw [putR_ok tab_nil (by decide) (by decide)]; rfl
theorem put_ab : putR [fB] fA = ([fA, fB], 0) := by
  rw [putR_ok (by decide) (by decide) (by decide)]
  have : putF [fB] fA = [fA, fB] := by
    unfold putF lowF highF
    rw [List.filter_cons_of_neg (by decide), List.filter_cons_of_pos (by decide)]; rfl
  rw [this]
theorem bz_a : (ByteArray.mk #[97]) = bz [97] := rfl
set_option maxHeartbeats 1000000 in
theorem live_any (w : World) : Calls Try.prog 9 #[] w fun e w' => e = .returned (.bool true) ∧ Below w.heap.size w w' := by
  have h1 := put_any 0 0 (.slice none 0 0) [] fB w (Rd.nil _ _ _ _ _) (Nat.zero_le _) (fun _ h => by cases h) smF_b
  have h2 := fun (W : World) (v : Value) (h : OwnF W w.heap.size v [fB]) => put_any w.heap.size W.heap.size v [fB] fA W h.fls (Nat.le_refl _) (fun x hx => by rw [List.mem_singleton.1 hx]; exact smF_b) smF_a
  rw [put_b] at h1
  rw [put_ab] at h2
  have eb : (.agg #[.string (bz fB.nm), .float .f64 fB.rk, .int .u32 fB.sm, .int .i64 fB.bk, .int .i64 fB.fr, .int .i64 fB.ln] : Value) = .agg #[.string ⟨#[98]⟩, .float .f64 0, .int .u32 0, .int .i64 0, .int .i64 0, .int .i64 0] := rfl
  have ea : (.agg #[.string (bz fA.nm), .float .f64 fA.rk, .int .u32 fA.sm, .int .i64 fA.bk, .int .i64 fA.fr, .int .i64 fA.ln] : Value) = .agg #[.string ⟨#[97]⟩, .float .f64 0, .int .u32 0, .int .i64 0, .int .i64 0, .int .i64 0] := rfl
  rw [eb] at h1
  rw [ea] at h2
  clear eb ea
  replace h2 : ∀ (W : World) (v : Value) (h : OwnF W w.heap.size v [fB]), w.heap.size ≤ W.heap.size → Calls Try.prog 11 #[v, .agg #[.string ⟨#[97]⟩, .float .f64 0, .int .u32 0, .int .i64 0, .int .i64 0, .int .i64 0]] W fun e w' => ∃ b o c s, e = .returned (.tuple #[.slice (some ⟨b, o, none⟩) 2 c, .int .i64 0]) ∧ w'.cell? ⟨b, o, none⟩ = some (.string s) ∧ (s.toList == [97]) = true ∧ Below W.heap.size W w' := fun W v h _ => by
    refine (h2 W v h).mono ?_
    rintro e w2 ⟨v2, rfl, O2, B2⟩
    obtain ⟨A8, c8, e8, _, _, hr8⟩ := O2.fls.open6
    obtain ⟨b8, off8, e9, _, _, hx8⟩ := hr8 0 (Nat.succ_pos _)
    subst e8 e9
    refine ⟨b8, off8, c8, ⟨#[97]⟩, rfl, ?_, by rw [bz_a, bz_toList]; decide, B2⟩
    have := hx8 0 _ rfl
    exact this
  obtain ⟨P, hP⟩ : ∃ P : World → Value → Prop, P = fun W v => OwnF W w.heap.size v [fB] := ⟨_, rfl⟩
  have h1' : Calls Try.prog 11 #[.slice none 0 0, .agg #[.string ⟨#[98]⟩, .float .f64 0, .int .u32 0, .int .i64 0, .int .i64 0, .int .i64 0]] w fun e w' => ∃ v', e = .returned (.tuple #[v', .int .i64 0]) ∧ P w' v' ∧ Below w.heap.size w w' := by rw [hP]; exact h1
  have h2' := fun W v (h : P W v) => h2 W v (by rw [hP] at h; exact h)
  clear h1 h2 hP
  replace h1' := hide h1'; replace h2' := hide h2'
  have t1 : True := trivial
  go_enter Try.func9, Try.ntmps9
  go_wp2_with (first
    | (have _t := t1; clear t1 _t; go_at_call 11; refine (unhide h1').mono ?_; rintro e w1 ⟨v1, rfl, O1, B1⟩; replace O1 := hide O1; replace B1 := hide B1)
    | (go_at_call 11; refine (unhide h2' _ _ (unhide O1) (unhide B1).size).mono ?_; rintro e w2 ⟨b8, o8, c8, s8, rfl, x0, hs8, B2⟩; (have B3 := hide ((unhide B1).trans (B2.mono (unhide B1).size)))))
  go_ret
  exact ⟨rfl, unhide B3⟩
end Go.Proofs.Ytkgfmiicfegnlaa
