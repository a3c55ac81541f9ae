import Derived.Test.YtnjepbehfioclaaP3
namespace Go.Proofs.Ytnjepbehfioclaa
open Go.RowKit
attribute [local go_sem] bz_size bz_toList run_store_float
set_option maxRecDepth 100000

theorem putFile_any (base n c0 : Nat) (A : Option Addr) (l : List UInt8) (f : Fl) (w : World) (h : w.ownsRow base 5 1 (.slice A n c0) n (l.flatMap bc)) (hb : base ≤ w.heap.size) (hn : n ≤ 100000000) (hok : okF f = true) (hu : U32F f) (hk : f.rk < 18446744073709551616) :
    Calls Try.prog 23 #[.slice A n c0, (.agg #[.string (bz f.nm), .float .f64 f.rk, .int .u32 f.sm, .int .i64 f.bk, .int .i64 f.fr, .int .i64 f.ln])] w fun e w' => ∃ A' c', e = .returned (.slice A' (n + (21 + f.nm.length)) c') ∧ w'.ownsRow base 5 1 (.slice A' (n + (21 + f.nm.length)) c') (n + (21 + f.nm.length)) ((l ++ fileT f).flatMap bc) ∧ Below base w w' ∧ Kept 5 w w' := by
  have h96 := nm_96 hok
  obtain ⟨b0, b1, r0, r1, d0, d1⟩ := ok_nums hok
  obtain ⟨u0, u1⟩ := hu
  obtain ⟨nm, rk, sm, bk, fr, ln⟩ := f
  simp only [] at *
  obtain ⟨s, rfl⟩ : ∃ s : Nat, sm = (s : Int) := ⟨sm.toNat, by omega⟩
  obtain ⟨b, rfl⟩ : ∃ s : Nat, bk = (s : Int) := ⟨bk.toNat, by omega⟩
  obtain ⟨r, rfl⟩ : ∃ s : Nat, fr = (s : Int) := ⟨fr.toNat, by omega⟩
  obtain ⟨d, rfl⟩ : ∃ s : Nat, ln = (s : Int) := ⟨ln.toNat, by omega⟩
  exact putFileN_any base n c0 A l nm rk s b r d w h hb hn (by omega) hk (by omega) (by omega) (by omega) (by omega)

/-- A row of one file. -/
theorem one_fls {W : World} {g : Nat} {f : Fl} (h : Blk W g 26 #[.string (bz f.nm), .float .f64 f.rk, .int .u32 f.sm, .int .i64 f.bk, .int .i64 f.fr, .int .i64 f.ln]) : Fls 0 W.heap.size W (.slice (some ⟨g, 0, none⟩) 1 1) [f] :=
  ⟨some ⟨g, 0, none⟩, 1, rfl, by simp, by omega, fun _ => ⟨g, 0, rfl, Nat.zero_le _, h.lt, fun i hi j u hu => by
    have h0 : i = 0 := by simp at hi; omega
    subst h0
    have e : (⟨g, 0 + 0 * 6 + j, none⟩ : Addr) = ⟨g, j, none⟩ := by simp
    rw [e, h.cell j]
    simpa [fc] using hu⟩⟩
theorem tab_one (f : Fl) : tabB [f] = okF f := by
  unfold tabB okAt
  simp [nth]
/-- What 'One' answers. -/
def oneL (f : Fl) : List UInt8 := if okF f then fileT f else []
theorem ret_te {v v' : Value} {z z' : Int} (h : v = v') (e : z = z') : Ending.returned (.tuple #[v, .int .i64 z]) = .returned (.tuple #[v', .int .i64 z']) := by rw [h, e]
set_option maxHeartbeats 1000000 in
theorem One_any (f : Fl) (hs : SmF f) (hu : U32F f) (w : World) :
    Calls Try.prog 12 #[(.agg #[.string (bz f.nm), .float .f64 f.rk, .int .u32 f.sm, .int .i64 f.bk, .int .i64 f.fr, .int .i64 f.ln])] w fun e w' => ∃ A c, e = .returned (.tuple #[.slice A (oneL f).length c, .int .i64 (errB (okF f))]) ∧ w'.ownsRow w.heap.size 5 1 (.slice A (oneL f).length c) (oneL f).length ((oneL f).flatMap bc) ∧ Below w.heap.size w w' := by
  have b0 : Blk ((w.alloc (.cells #[.string (bz f.nm), .float .f64 f.rk, .int .u32 f.sm, .int .i64 f.bk, .int .i64 f.fr, .int .i64 f.ln] 26)).alloc (.cells #[.string (bz f.nm), .float .f64 f.rk, .int .u32 f.sm, .int .i64 f.bk, .int .i64 f.fr, .int .i64 f.ln] 26)) (w.heap.size + 1) 26 #[.string (bz f.nm), .float .f64 f.rk, .int .u32 f.sm, .int .i64 f.bk, .int .i64 f.fr, .int .i64 f.ln] := Blk.new (by simp only [World.size_alloc])
  have b1 : Blk ((w.alloc (.cells #[.string (bz f.nm), .float .f64 f.rk, .int .u32 f.sm, .int .i64 f.bk, .int .i64 f.fr, .int .i64 f.ln] 26)).alloc (.cells #[.string (bz f.nm), .float .f64 f.rk, .int .u32 f.sm, .int .i64 f.bk, .int .i64 f.fr, .int .i64 f.ln] 26)) w.heap.size 26 #[.string (bz f.nm), .float .f64 f.rk, .int .u32 f.sm, .int .i64 f.bk, .int .i64 f.fr, .int .i64 f.ln] := (Blk.new rfl).alloc _
  have HT := tcheck_any 0 _ _ [f] _ (one_fls b0) (Nat.le_refl _) (fun x hx => by simp at hx; subst hx; exact hs)
  rw [tab_one] at HT
  have B0 : Below w.heap.size w ((w.alloc (.cells #[.string (bz f.nm), .float .f64 f.rk, .int .u32 f.sm, .int .i64 f.bk, .int .i64 f.fr, .int .i64 f.ln] 26)).alloc (.cells #[.string (bz f.nm), .float .f64 f.rk, .int .u32 f.sm, .int .i64 f.bk, .int .i64 f.fr, .int .i64 f.ln] 26)) := bl_alloc (bl_alloc (Below.refl _ _) _) _
  have hP := fun (W : World) (hok : okF f = true) (hW : w.heap.size ≤ W.heap.size) => putFile_any w.heap.size 0 0 none [] f W (World.ownsRow_nil _ _ _ _) hW (by omega) hok hu hs.2
  cases hok : okF f with
  | true =>
    have ho : oneL f = fileT f := by unfold oneL; rw [hok]; rfl
    rw [hok] at HT
    have hl := file_len f
    replace HT := hide HT; replace B0 := hide B0; replace hP := hide hP; replace hok := hide hok; replace b1 := hide b1; replace hl := hide hl
    rw [ho]
    clear b0 hs hu ho
    go_enter Try.func12, Try.ntmps12
    go_wp2_with (first
      | (go_at_call 20; refine (unhide HT).mono ?_; rintro e w1 ⟨rfl, B1⟩; have b2 := Blk.below (unhide b1) B1 (unhide b1).lt; obtain ⟨c0, c1, c2, c3, c4, c5⟩ := bk6 b2; have B2 := hide ((unhide B0).trans (B1.mono (unhide B0).size)); clear B1 b2)
      | (go_at_call 23; refine (unhide hP _ (unhide hok) (unhide B2).size).mono ?_; rintro e w2 ⟨A, c, rfl, o, B3, _⟩; have B4 := (unhide B2).trans (B3.mono (Nat.le_refl _)); replace o := hide o; clear B3)
      | fail)
    go_ret2
    have o' := unhide o
    rw [Nat.zero_add, ← unhide hl, List.nil_append] at o'
    refine ⟨A, c, ?_, o', B4⟩
    rw [unhide hl]
    exact ret_te rfl rfl
  | false =>
    have ho : oneL f = [] := by unfold oneL; rw [hok]; rfl
    rw [hok] at HT
    replace HT := hide HT; replace B0 := hide B0
    rw [ho]
    clear b0 b1 hs hu ho hP hok
    go_enter Try.func12, Try.ntmps12
    go_wp2_with (first
      | (go_at_call 20; refine (unhide HT).mono ?_; rintro e w1 ⟨rfl, B1⟩)
      | fail)
    go_ret2
    exact ⟨none, 0, rfl, World.ownsRow_nil _ _ _ _, (unhide B0).trans (B1.mono (unhide B0).size)⟩
end Go.Proofs.Ytnjepbehfioclaa
