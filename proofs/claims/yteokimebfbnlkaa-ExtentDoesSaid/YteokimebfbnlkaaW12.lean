import Derived.Test.YteokimebfbnlkaaW11
namespace Go.Proofs.Yteokimebfbnlkaa
open Go.RowKit

theorem Xs.eq {x y : Xs} (h1 : x.size = y.size) (h2 : x.free = y.free) : x = y := by
  cases x; cases y; simp_all
/-- Two that may be, of one size, with the same sectors, are the same. -/
theorem okX_ext {x y : Xs} (hx : okX x = true) (hy : okX y = true) (hs : x.size = y.size) (h : ∀ i, mem x.free i ↔ mem y.free i) : x = y := by
  refine Xs.eq hs ?_
  have h1 := (okX_iff.1 hx).2.2
  have h2 := (okX_iff.1 hy).2.2
  rw [← hs] at h2
  exact okF_ext h1 h2 h
theorem first_uniq {n : Int} {p p' q q' : List Ex} {f f' : Ex} (h : p ++ f :: q = p' ++ f' :: q') (hp : ∀ g ∈ p, g.len < n) (hf : n ≤ f.len) (hp' : ∀ g ∈ p', g.len < n) (hf' : n ≤ f'.len) : f = f' := by
  induction p generalizing p' with
  | nil =>
    rcases p' with _ | ⟨g, r⟩
    · injection h
    · injection h with h1 _
      have := hp' g List.mem_cons_self
      subst h1
      omega
  | cons g r ih =>
    rcases p' with _ | ⟨g', r'⟩
    · injection h with h1 _
      have := hp g List.mem_cons_self
      subst h1
      omega
    · injection h with _ h2
      exact ih h2 (fun x hx => hp x (List.mem_cons_of_mem _ hx)) fun x hx => hp' x (List.mem_cons_of_mem _ hx)
theorem take_is {x y z : Xs} {n er : Int} {s : Ex} (h : TakeOut x n s y er) (p q : List Ex) (f : Ex) (hx : x.free = p ++ f :: q) (hp : ∀ g ∈ p, g.len < n) (hf : n ≤ f.len) (hn : 1 ≤ n) (ok : okX x = true)
    (hz : okX z = true) (hzs : z.size = x.size) (hzm : ∀ i, mem z.free i ↔ mem x.free i ∧ ¬ inE ⟨f.at_, n⟩ i) : er = 0 ∧ s = ⟨f.at_, n⟩ ∧ y = z := by
  rcases h with ⟨h, _⟩ | ⟨_, _, h, _⟩ | ⟨_, _, h1, ⟨p', f', q', e, h2, h3, h4⟩, h5, h6, h7⟩
  · exact absurd ⟨ok, hn⟩ h
  · have := h f (by rw [hx]; simp)
    omega
  · have := first_uniq (hx.symm.trans e) hp hf h2 h3
    subst this
    subst h4
    exact ⟨h1, rfl, okX_ext h6 hz (by rw [h5, hzs]) fun i => by rw [h7, hzm]⟩
theorem give_is {x y z : Xs} {er : Int} {s : Ex} (h : GiveOut x s y er) (ok : okX x = true) (hs : isOfB s x.size = true) (hf : ∀ i, inE s i → ¬ mem x.free i)
    (hz : okX z = true) (hzs : z.size = x.size) (hzm : ∀ i, mem z.free i ↔ mem x.free i ∨ inE s i) : er = 0 ∧ y = z := by
  rcases h with ⟨h, _⟩ | ⟨_, _, h, _⟩ | ⟨_, _, _, h1, h5, h6, h7⟩
  · exact absurd ⟨ok, hs⟩ h
  · exact absurd hf h
  · exact ⟨h1, okX_ext h6 hz (by rw [h5, hzs]) fun i => by rw [h7, hzm]⟩

def x8 (l : List Ex) : Xs := ⟨8, l⟩
theorem live_new (w : World) : Calls Try.prog 17 #[.int .i64 8] w fun e w' => ∃ A c, e = .returned (.tuple #[.agg #[.int .i64 8, .slice A 1 c], .int .i64 0]) ∧ XsR w.heap.size w'.heap.size w' (.agg #[.int .i64 8, .slice A 1 c]) (x8 [⟨0, 8⟩]) ∧ Below w.heap.size w w' :=
  (new_any 8 w).mono fun e w' ⟨A, c, y, er, he, ho, hx, hb⟩ => by
    have hy : y = x8 [⟨0, 8⟩] ∧ er = 0 := by
      rcases ho with ⟨h, _⟩ | ⟨_, h1, h2⟩
      · exact absurd h (by decide)
      · exact ⟨h1.trans (by simp [newX, x8]), h2⟩
    obtain ⟨rfl, rfl⟩ := hy
    exact ⟨A, c, he, hx, hb⟩
theorem live_take (n : Int) (lo : Nat) (A : Option Addr) (c : Nat) (p q L : List Ex) (f : Ex) (m k : Nat) (w : World) (h : XsR lo w.heap.size w (.agg #[.int .i64 8, .slice A m c]) (x8 (p ++ f :: q))) (hr : Rgs (p ++ f :: q))
    (hp : ∀ g ∈ p, g.len < n) (hf : n ≤ f.len) (hn : 1 ≤ n) (ok : okX (x8 (p ++ f :: q)) = true) (okL : okX (x8 L) = true) (hm : ∀ i, mem L i ↔ mem (p ++ f :: q) i ∧ ¬ inE ⟨f.at_, n⟩ i) (hk : L.length = k) :
    Calls Try.prog 11 #[.agg #[.int .i64 8, .slice A m c], .int .i64 n] w fun e w' => ∃ A c, e = .returned (.tuple #[.agg #[.int .i64 f.at_, .int .i64 n], .agg #[.int .i64 8, .slice A k c], .int .i64 0]) ∧
      XsR w.heap.size w'.heap.size w' (.agg #[.int .i64 8, .slice A k c]) (x8 L) ∧ Below w.heap.size w w' :=
  (take_any lo _ _ n w h hr).mono fun e w' ⟨A, c, s, y, er, he, ho, hx, hb⟩ => by
    obtain ⟨rfl, rfl, rfl⟩ := take_is (z := x8 L) ho p q f rfl hp hf hn ok okL rfl hm
    subst hk
    exact ⟨A, c, he, hx, hb⟩
theorem live_give (lo : Nat) (A : Option Addr) (c : Nat) (l L : List Ex) (s : Ex) (m k : Nat) (w : World) (h : XsR lo w.heap.size w (.agg #[.int .i64 8, .slice A m c]) (x8 l)) (hr : Rgs l)
    (ok : okX (x8 l) = true) (hs : isOfB s 8 = true) (hf : ∀ i, inE s i → ¬ mem l i) (okL : okX (x8 L) = true) (hm : ∀ i, mem L i ↔ mem l i ∨ inE s i) (hk : L.length = k) :
    Calls Try.prog 15 #[.agg #[.int .i64 8, .slice A m c], exV s] w fun e w' => ∃ A c, e = .returned (.tuple #[.agg #[.int .i64 8, .slice A k c], .int .i64 0]) ∧
      XsR w.heap.size w'.heap.size w' (.agg #[.int .i64 8, .slice A k c]) (x8 L) ∧ Below w.heap.size w w' :=
  (give_any lo _ _ s w h hr (by have := (isOfB_iff.1 hs); omega)).mono fun e w' ⟨A, c, y, er, he, ho, hx, hb⟩ => by
    obtain ⟨rfl, rfl⟩ := give_is (z := x8 L) ho ok hs hf okL rfl hm
    subst hk
    exact ⟨A, c, he, hx, hb⟩

theorem live_t1 (lo : Nat) (A : Option Addr) (c : Nat) (w : World) (h : XsR lo w.heap.size w (.agg #[.int .i64 8, .slice A 1 c]) (x8 [⟨0, 8⟩])) :
    Calls Try.prog 11 #[.agg #[.int .i64 8, .slice A 1 c], .int .i64 3] w fun e w' => ∃ A c, e = .returned (.tuple #[.agg #[.int .i64 0, .int .i64 3], .agg #[.int .i64 8, .slice A 1 c], .int .i64 0]) ∧ XsR w.heap.size w'.heap.size w' (.agg #[.int .i64 8, .slice A 1 c]) (x8 [⟨3, 5⟩]) ∧ Below w.heap.size w w' :=
  live_take 3 lo A c [] [] [⟨3, 5⟩] ⟨0, 8⟩ 1 1 w h (by simp [Rgs]) (by simp) (by decide) (by decide) (by decide) (by decide) (fun i => by simp [mem_cons, mem_nil, inE]; omega) rfl
theorem live_t2 (lo : Nat) (A : Option Addr) (c : Nat) (w : World) (h : XsR lo w.heap.size w (.agg #[.int .i64 8, .slice A 1 c]) (x8 [⟨3, 5⟩])) :
    Calls Try.prog 11 #[.agg #[.int .i64 8, .slice A 1 c], .int .i64 2] w fun e w' => ∃ A c, e = .returned (.tuple #[.agg #[.int .i64 3, .int .i64 2], .agg #[.int .i64 8, .slice A 1 c], .int .i64 0]) ∧ XsR w.heap.size w'.heap.size w' (.agg #[.int .i64 8, .slice A 1 c]) (x8 [⟨5, 3⟩]) ∧ Below w.heap.size w w' :=
  live_take 2 lo A c [] [] [⟨5, 3⟩] ⟨3, 5⟩ 1 1 w h (by simp [Rgs]) (by simp) (by decide) (by decide) (by decide) (by decide) (fun i => by simp [mem_cons, mem_nil, inE]; omega) rfl
theorem live_g (lo : Nat) (A : Option Addr) (c : Nat) (w : World) (h : XsR lo w.heap.size w (.agg #[.int .i64 8, .slice A 1 c]) (x8 [⟨5, 3⟩])) :
    Calls Try.prog 15 #[.agg #[.int .i64 8, .slice A 1 c], .agg #[.int .i64 0, .int .i64 3]] w fun e w' => ∃ A c, e = .returned (.tuple #[.agg #[.int .i64 8, .slice A 2 c], .int .i64 0]) ∧ XsR w.heap.size w'.heap.size w' (.agg #[.int .i64 8, .slice A 2 c]) (x8 [⟨0, 3⟩, ⟨5, 3⟩]) ∧ Below w.heap.size w w' :=
  live_give lo A c [⟨5, 3⟩] [⟨0, 3⟩, ⟨5, 3⟩] ⟨0, 3⟩ 1 2 w h (by simp [Rgs]) (by decide) (by decide) (fun i => by simp [mem_cons, mem_nil, inE]; omega) (by decide) (fun i => by simp [mem_cons, mem_nil, inE]; omega) rfl
theorem live_t3 (lo : Nat) (A : Option Addr) (c : Nat) (w : World) (h : XsR lo w.heap.size w (.agg #[.int .i64 8, .slice A 2 c]) (x8 [⟨0, 3⟩, ⟨5, 3⟩])) :
    Calls Try.prog 11 #[.agg #[.int .i64 8, .slice A 2 c], .int .i64 2] w fun e w' => ∃ A c, e = .returned (.tuple #[.agg #[.int .i64 0, .int .i64 2], .agg #[.int .i64 8, .slice A 2 c], .int .i64 0]) ∧ XsR w.heap.size w'.heap.size w' (.agg #[.int .i64 8, .slice A 2 c]) (x8 [⟨2, 1⟩, ⟨5, 3⟩]) ∧ Below w.heap.size w w' :=
  live_take 2 lo A c [] [⟨5, 3⟩] [⟨2, 1⟩, ⟨5, 3⟩] ⟨0, 3⟩ 2 2 w h (by simp [Rgs]) (by simp) (by decide) (by decide) (by decide) (by decide) (fun i => by simp [mem_cons, mem_nil, inE]; omega) rfl
end Go.Proofs.Yteokimebfbnlkaa
