import Derived.Test.YtnjepbehfioclaaP6
namespace Go.Proofs.Ytnjepbehfioclaa
open Go.RowKit
attribute [local go_sem] bz_size bz_toList run_store_float
set_option maxRecDepth 100000

theorem one_t {f : Fl} (h : okF f = true) : oneL f = fileT f := by unfold oneL; rw [h]; rfl
theorem one_f {f : Fl} (h : okF f = false) : oneL f = [] := by unfold oneL; rw [h]; rfl
set_option maxHeartbeats 1000000 in
theorem refOneT_any (f : Fl) (hs : SmF f) (hu : U32F f) (w : World) :
    Calls Try.prog 13 #[(.agg #[.string (bz f.nm), .float .f64 f.rk, .int .u32 f.sm, .int .i64 f.bk, .int .i64 f.fr, .int .i64 f.ln])] w fun e w' => ∃ A c, e = .returned (.tuple #[.slice A (oneL f).length c, .int .i64 (errB (okF f))]) ∧ w'.ownsRow w.heap.size 5 1 (.slice A (oneL f).length c) (oneL f).length ((oneL f).flatMap bc) ∧ Below w.heap.size w w' := by
  have hM := fun W => refMay_any f hs W
  cases hok : okF f with
  | true =>
    rw [one_t hok, file_len f]
    rw [hok] at hM
    have h96 := nm_96 hok
    obtain ⟨b0, b1, r0, r1, d0, d1⟩ := ok_nums hok
    obtain ⟨u0, u1⟩ := hu
    have hk := hs.2
    clear hs hok
    obtain ⟨nm, rk, sm, bk, fr, ln⟩ := f
    simp only [] at *
    obtain ⟨s, rfl⟩ : ∃ s : Nat, sm = (s : Int) := ⟨sm.toNat, by omega⟩
    obtain ⟨b, rfl⟩ : ∃ s : Nat, bk = (s : Int) := ⟨bk.toNat, by omega⟩
    obtain ⟨r, rfl⟩ : ∃ s : Nat, fr = (s : Int) := ⟨fr.toNat, by omega⟩
    obtain ⟨d, rfl⟩ : ∃ s : Nat, ln = (s : Int) := ⟨ln.toNat, by omega⟩
    exact refOneN_any nm rk s b r d w (by omega) hk (by omega) (by omega) (by omega) (by omega) hM
  | false =>
    rw [one_f hok]
    rw [hok] at hM
    replace hM := hide hM
    clear hs hu hok
    have B0 : Below w.heap.size w (w.alloc (.cells #[.string (bz f.nm), .float .f64 f.rk, .int .u32 f.sm, .int .i64 f.bk, .int .i64 f.fr, .int .i64 f.ln] 26)) := bl_alloc (Below.refl _ _) _
    replace B0 := hide B0
    go_enter Try.func13, Try.ntmps13
    go_wp2_with (first
      | (go_at_call 26; refine (unhide hM _).mono ?_; rintro e w1 ⟨rfl, B1⟩)
      | fail)
    go_ret2
    exact ⟨none, 0, rfl, World.ownsRow_nil _ _ _ _, (unhide B0).trans (B1.mono (unhide B0).size)⟩

set_option maxHeartbeats 1000000 in
theorem refBytes_any (lo hi : Nat) (v : Value) (l : List Fl) (w : World) (h : Fls lo hi w v l) (hhi : hi ≤ w.heap.size) (hs : SmL l) (hu : SmU l) :
    Calls Try.prog 11 #[v] w fun e w' => ∃ A c, e = .returned (.tuple #[.slice A (bytesL l).length c, .int .i64 (errB (tabB l))]) ∧ w'.ownsRow w.heap.size 5 1 (.slice A (bytesL l).length c) (bytesL l).length ((bytesL l).flatMap bc) ∧ Below w.heap.size w w' := by
  have HL := refCheckL_any lo hi v l w h hhi hs
  obtain ⟨A, c, rfl, h1, h2, h3⟩ := h.open6
  clear h
  cases ht : tabB l with
  | false =>
    rw [ht] at HL
    have hb := bytes_f ht
    rw [hb]
    replace HL := hide HL
    clear h3 hs hb
    go_enter Try.func11, Try.ntmps11
    go_wp2_with (first
      | (go_at_call 24; refine (unhide HL).mono ?_; rintro e w1 ⟨rfl, B1⟩)
      | fail)
    go_ret2
    exact ⟨none, 0, rfl, World.ownsRow_nil _ _ _ _, B1⟩
  | true =>
    rw [ht] at HL
    have h256 := tab_len ht
    have hok := fun f (hf : f ∈ l) => tab_ok ht hf
    have hle := fun k => long_take_le l k hok
    have hst := fun k (hk : k < l.length) => files_take hk
    have hsl := fun k (hk : k < l.length) => long_take hk
    have hF := fun k (hk : k < l.length) (W : World) => refOneT_any (nth l k) (hs _ (nth_mem hk)) (hu _ (nth_mem hk)) W
    have hkk := fun k (hk : k < l.length) => hok _ (nth_mem hk)
    have hen : bytesL l = putN 2 l.length ++ filesT (l.take l.length) := by rw [bytes_t ht, tabT, List.take_length]
    have hlen : (bytesL l).length = 2 + longT (l.take l.length) := by rw [bytes_t ht, tab_len', List.take_length]
    obtain ⟨n, hn⟩ : ∃ n, n = l.length := ⟨_, rfl⟩
    rw [← hn] at h3 h1 h256 hen hlen HL ⊢
    have hN := fun W => refPut_any n 2 W (by omega) (by omega)
    have e1 : (n : Int) % (18446744073709551616 : Int) = (n : Int) := u64_of_nat (by omega)
    obtain ⟨i0, hi0, iz0, iz1, iz2⟩ := info_p info5
    replace HL := hide HL; replace hle := hide hle; replace hst := hide hst; replace hsl := hide hsl; replace hen := hide hen; replace hlen := hide hlen; replace hn := hide hn; replace h3 := hide h3; replace h1 := hide h1; replace hN := hide hN; replace hF := hide hF; replace hkk := hide hkk
    clear hs hu hok ht
    go_enter Try.func11, Try.ntmps11
    go_wp2_with (first
      | (go_at_call 24; refine (unhide HL).mono ?_; rintro e w1 ⟨rfl, B1⟩)
      | (go_at_call 25; refine (unhide hN _).mono ?_; rintro e w2 ⟨A2, c2, rfl, o2, B3⟩; have B4 := hide (B1.trans (B3.mono B1.size)); (have o2' := hide (ownsRow_mono o2 B1.size)); clear B3 o2)
      | fail)
    clear B1
    go_loopw [4, 18] (fun s i wr => ∃ (k p c' : Nat) (A' : Option Addr), k ≤ n ∧ s = .slice A' p c' ∧ p ≤ 40000 ∧ Hid (p = 2 + longT (l.take k)) ∧ i = .int .i64 k ∧ Hid (wr.ownsRow w.heap.size 5 1 (.slice A' p c') p ((putN 2 n ++ filesT (l.take k)).flatMap bc)) ∧ Hid (Below w.heap.size w wr)) (fun _ i _ => n - (intOf i).toNat)
    case atStart => exact ⟨0, 2, c2, A2, Nat.zero_le _, rfl, by omega, hide rfl, rfl, hide (by simpa [filesT] using unhide o2'), B4⟩
    case round =>
      obtain ⟨k, p, c', A', hk, rfl, hp, hpe, rfl, ho, hB⟩ := hrel
      by_cases hlt : k < n
      · have ha : k < l.length := by rw [← unhide hn]; exact hlt
        obtain ⟨g, off, rfl, _, hg, hc⟩ := unhide h3 k hlt
        have q1 : g < wr.heap.size := Nat.lt_of_lt_of_le (Nat.lt_of_lt_of_le hg hhi) (unhide hB).size
        have hs1 := unhide hst k ha
        have hs3 := unhide hsl k ha
        have hs2 := unhide hle (k + 1)
        have hok1 := unhide hkk k ha
        have hF1 := unhide hF k ha
        obtain ⟨f, hf⟩ : ∃ f, f = nth l k := ⟨_, rfl⟩
        rw [← hf] at hc hs1 hs3 hF1 hok1
        rw [one_t hok1, hok1, file_len f] at hF1
        have hB0 : Hid (Below w.heap.size w (wr.alloc (.cells #[.string (bz f.nm), .float .f64 f.rk, .int .u32 f.sm, .int .i64 f.bk, .int .i64 f.fr, .int .i64 f.ln] 26))) := hide ((unhide hB).alloc (unhide hB).size _)
        have ho0 : Hid ((wr.alloc (.cells #[.string (bz f.nm), .float .f64 f.rk, .int .u32 f.sm, .int .i64 f.bk, .int .i64 f.fr, .int .i64 f.ln] 26)).ownsRow w.heap.size 5 1 (.slice A' p c') p ((putN 2 n ++ filesT (l.take k)).flatMap bc)) := hide (World.ownsRow.alloc (unhide ho) _)
        obtain ⟨c0, c1, c2, c3, c4, c5⟩ := six (below_load (unhide hB) (Nat.lt_of_lt_of_le hg hhi) hc)
        have hpe' := unhide hpe
        have hp2 : p + (21 + f.nm.length) ≤ 40000 := by omega
        have hpe2 : p + (21 + f.nm.length) = 2 + longT (l.take (k + 1)) := by omega
        have hx : (putN 2 n ++ filesT (l.take k)) ++ fileT f = putN 2 n ++ filesT (l.take (k + 1)) := by rw [hs1, List.append_assoc]
        have hto := flat_one bc_one (fileT f)
        clear hc hf ha hs1 hs2 hs3 hpe' hok1
        replace hpe2 := hide hpe2; replace hp2 := hide hp2; replace hx := hide hx; replace hF1 := hide hF1; replace hto := hide hto
        go_wp2_with (first
          | (go_at_call 13; refine (unhide hF1 _).mono ?_; rintro e w3 ⟨A3, c3', rfl, o3, B3⟩
             have ho3 := hide (own_below (unhide ho0) B3 (Nat.le_refl _))
             have hB3 := hide ((unhide hB0).trans (B3.mono (unhide hB0).size))
             replace o3 := hide o3; clear B3)
          | (at_builtin
             refine wpList_app _ rfl (.tmp 27) (.tmp 28) 27 rfl w.heap.size 5 i0 _ 1 1 Try.underlying27 hi0 iz0 iz1 iz2 rfl (Nat.succ_pos _) _ p ((putN 2 n ++ filesT (l.take k)).flatMap bc) rfl (unhide ho3) A3 (21 + f.nm.length) c3' ((fileT f).flatMap bc) rfl (own_src (unhide o3)).1 (own_src (unhide o3)).2 (unhide hto) (by have := unhide hp2; simp only [maxLen]; omega) (by have := unhide hp2; omega) (unhide hB3).size ?_
             intro v4 w4 o4 g4
             rw [flat_app, unhide hx] at o4
             obtain ⟨A4, c4', rfl⟩ := ownsRow_form o4
             have hB4 := hide ((unhide hB3).grown g4 (unhide hB3).size (own_base (unhide ho3)))
             clear g4)
          | fail)
        go_roundw
        case rel => exact ⟨k + 1, p + (21 + f.nm.length), c4', A4, by omega, rfl, unhide hp2, hpe2, by go_num, hide o4, hB4⟩
        case measure => simp [intOf]; omega
      · obtain rfl : k = n := by omega
        have he : (bytesL l).length = p := by rw [unhide hlen, unhide hpe]
        have he2 := unhide hen
        have ho' := unhide ho
        rw [← he2] at ho'
        replace ho' := hide ho'; replace he := hide he
        clear he2
        go_wp2
        go_ret2
        refine ⟨A', c', ?_, by rw [unhide he]; exact unhide ho', unhide hB⟩
        rw [unhide he]
        exact ret_te rfl rfl
set_option maxHeartbeats 1000000 in
theorem refLong_any (lo hi : Nat) (v : Value) (l : List Fl) (w : World) (h : Fls lo hi w v l) (hhi : hi ≤ w.heap.size) (hs : SmL l) (hu : SmU l) :
    Calls Try.prog 15 #[v] w fun e w' => e = .returned (.tuple #[.int .i64 ((bytesL l).length : Nat), .int .i64 (errB (tabB l))]) ∧ Below w.heap.size w w' := by
  have HB := refBytes_any lo hi v l w h hhi hs hu
  generalize bytesL l = b at *
  generalize errB (tabB l) = er at *
  replace HB := hide HB
  clear h hs hu hhi
  go_enter Try.func15, Try.ntmps15
  go_wp2_with (first
    | (go_at_call 11; refine (unhide HB).mono ?_; rintro e w1 ⟨A, c, rfl, _, B1⟩)
    | fail)
  go_ret2
  exact ⟨rfl, B1⟩
end Go.Proofs.Ytnjepbehfioclaa
