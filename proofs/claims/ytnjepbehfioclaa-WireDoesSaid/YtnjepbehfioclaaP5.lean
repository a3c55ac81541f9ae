import Derived.Test.YtnjepbehfioclaaP4
import Derived.Laws.MakeOwn
namespace Go.Proofs.Ytnjepbehfioclaa
open Go.RowKit
attribute [local go_sem] bz_size bz_toList run_store_float
set_option maxRecDepth 100000

theorem takeF_succ {l : List Fl} {k : Nat} (h : k < l.length) : l.take (k + 1) = l.take k ++ [nth l k] := by rw [nth_get h]; exact List.take_succ_eq_append_getElem h
theorem long_take {l : List Fl} {k : Nat} (h : k < l.length) : longT (l.take (k + 1)) = longT (l.take k) + (21 + (nth l k).nm.length) := by rw [takeF_succ h, long_snoc]
theorem files_take {l : List Fl} {k : Nat} (h : k < l.length) : filesT (l.take (k + 1)) = filesT (l.take k) ++ fileT (nth l k) := by rw [takeF_succ h, files_snoc]
theorem long_take_le (l : List Fl) (k : Nat) (h : ∀ f ∈ l, okF f = true) : longT (l.take k) ≤ 117 * k := by
  have h1 := long_le (l.take k) (fun f hf => h f (List.mem_of_mem_take hf))
  have h2 : (l.take k).length ≤ k := by rw [List.length_take]; omega
  omega
theorem bytes_t {l : List Fl} (h : tabB l = true) : bytesL l = tabT l := by unfold bytesL; rw [h]; rfl
theorem bytes_f {l : List Fl} (h : tabB l = false) : bytesL l = [] := by unfold bytesL; rw [h]; rfl
set_option maxHeartbeats 1000000 in
theorem Long_any (lo hi : Nat) (v : Value) (l : List Fl) (w : World) (h : Fls lo hi w v l) (hhi : hi ≤ w.heap.size) (hs : SmL l) :
    Calls Try.prog 14 #[v] w fun e w' => e = .returned (.tuple #[.int .i64 ((bytesL l).length : Nat), .int .i64 (errB (tabB l))]) ∧ Below w.heap.size w w' := by
  have HT := tcheck_any lo hi v l w h hhi hs
  obtain ⟨A, c, rfl, h1, h2, h3⟩ := h.open6
  clear h
  cases ht : tabB l with
  | false =>
    rw [ht] at HT
    have hb := bytes_f ht
    replace HT := hide HT; replace hb := hide hb
    clear h3 hs
    go_enter Try.func14, Try.ntmps14
    go_wp2_with (first
      | (go_at_call 20; refine (unhide HT).mono ?_; rintro e w1 ⟨rfl, B1⟩)
      | fail)
    go_ret2
    exact ⟨by rw [unhide hb]; rfl, B1⟩
  | true =>
    rw [ht] at HT
    have h256 := tab_len ht
    have hok := fun f (hf : f ∈ l) => tab_ok ht hf
    have hle := fun k => long_take_le l k hok
    have hst := fun k (hk : k < l.length) => long_take hk
    have hen : (bytesL l).length = 2 + longT (l.take l.length) := by rw [bytes_t ht, tab_len', List.take_length]
    obtain ⟨n, hn⟩ : ∃ n, n = l.length := ⟨_, rfl⟩
    rw [← hn] at h3 h1 h256 hen HT ⊢
    replace HT := hide HT; replace hle := hide hle; replace hst := hide hst; replace hen := hide hen; replace hn := hide hn; replace h3 := hide h3; replace h1 := hide h1
    clear hs hok ht
    go_enter Try.func14, Try.ntmps14
    go_wp2_with (first
      | (go_at_call 20; refine (unhide HT).mono ?_; rintro e w1 ⟨rfl, B1⟩)
      | fail)
    replace B1 := hide B1
    go_loopw [5, 15] (fun s i wr => ∃ k p : Nat, k ≤ n ∧ s = .int .i64 (p : Int) ∧ p ≤ 40000 ∧ Hid (p = 2 + longT (l.take k)) ∧ i = .int .i64 k ∧ Hid (Below w.heap.size w wr)) (fun _ i _ => n - (intOf i).toNat)
    case atStart => exact ⟨0, 2, Nat.zero_le _, rfl, by omega, hide rfl, rfl, B1⟩
    case round =>
      obtain ⟨k, p, hk, rfl, hp, hpe, rfl, hB⟩ := hrel
      by_cases hlt : k < n
      · have ha : k < l.length := by rw [← unhide hn]; exact hlt
        obtain ⟨g, off, rfl, _, hg, hc⟩ := unhide h3 k hlt
        have q1 : g < wr.heap.size := Nat.lt_of_lt_of_le (Nat.lt_of_lt_of_le hg hhi) (unhide hB).size
        have hB0 : Hid (∀ x, Below w.heap.size w (wr.alloc x)) := hide (fun x => (unhide hB).alloc (unhide hB).size _)
        have hs1 := unhide hst k ha
        have hs2 := unhide hle (k + 1)
        obtain ⟨f, hf⟩ : ∃ f, f = nth l k := ⟨_, rfl⟩
        rw [← hf] at hc hs1
        obtain ⟨c0, c1, c2, c3, c4, c5⟩ := six (below_load (unhide hB) (Nat.lt_of_lt_of_le hg hhi) hc)
        have hpe' := unhide hpe
        have hp2 : p + (21 + f.nm.length) ≤ 40000 := by omega
        have hpe2 : p + (21 + f.nm.length) = 2 + longT (l.take (k + 1)) := by omega
        obtain ⟨m, hm⟩ : ∃ m, m = f.nm.length := ⟨_, rfl⟩
        rw [← hm] at hp2 hpe2
        have hm' : (bz f.nm).size = m := hm.symm
        have i1 : IntKind.i64.wrap (21 + (m : Int)) = 21 + (m : Int) := IntWalk.i64_in _ (by omega)
        have i2 : IntKind.i64.wrap ((p : Int) + (21 + (m : Int))) = (p : Int) + (21 + (m : Int)) := IntWalk.i64_in _ (by omega)
        have i3 : (p : Int) + (21 + (m : Int)) = ((p + (21 + m) : Nat) : Int) := by omega
        clear hc hf ha hs1 hs2 hpe'
        replace hpe2 := hide hpe2; replace hp2 := hide hp2; replace hm := hide hm; replace i3 := hide i3
        go_wp2
        go_roundw
        case rel => exact ⟨k + 1, p + (21 + m), by omega, by rw [← unhide i3, unhide hm], unhide hp2, hpe2, by go_num, hide (unhide hB0 _)⟩
        case measure => simp [intOf]; omega
      · obtain rfl : k = n := by omega
        have he : (bytesL l).length = p := by rw [unhide hen, unhide hpe]
        replace he := hide he
        go_wp2
        go_ret2
        exact ⟨by rw [unhide he]; rfl, unhide hB⟩

theorem mk0 (m : Nat) (hm : m ≤ 1000000) (W : World) : ∃ cs : Array Value, cs.size = m * 1 ∧ (Instr.makeSlice 27 (.int .i64 0) (.int .i64 (m : Int))).run Try.prog W = .ok (.slice (some ⟨W.heap.size, 0, none⟩) 0 m) (W.alloc (.cells cs 5)) := by
  obtain ⟨i0, hi0, iz0, iz1, iz2⟩ := info_p info5
  have h := run_make (P := Try.prog) W 27 5 i0 _ Try.underlying27 hi0 iz0 .i64 .i64 0 (m : Int) (by omega) (by omega) (by rw [iz2]; omega) (by omega)
  rw [iz1] at h
  refine ⟨_, ?_, h⟩
  simp [madeCells]
set_option maxHeartbeats 1000000 in
theorem Bytes_any (lo hi : Nat) (v : Value) (l : List Fl) (w : World) (h : Fls lo hi w v l) (hhi : hi ≤ w.heap.size) (hs : SmL l) (hu : SmU l) :
    Calls Try.prog 10 #[v] w fun e w' => ∃ A c, e = .returned (.tuple #[.slice A (bytesL l).length c, .int .i64 (errB (tabB l))]) ∧ w'.ownsRow w.heap.size 5 1 (.slice A (bytesL l).length c) (bytesL l).length ((bytesL l).flatMap bc) ∧ Below w.heap.size w w' := by
  have HL := Long_any lo hi v l w h hhi hs
  obtain ⟨A, c, rfl, h1, h2, h3⟩ := h.open6
  clear h
  cases ht : tabB l with
  | false =>
    rw [ht] at HL
    have hb := bytes_f ht
    rw [hb] at HL ⊢
    replace HL := hide HL
    clear h3 hs hb
    go_enter Try.func10, Try.ntmps10
    go_wp2_with (first
      | (go_at_call 14; refine (unhide HL).mono ?_; rintro e w1 ⟨rfl, B1⟩)
      | fail)
    go_ret2
    exact ⟨none, 0, rfl, World.ownsRow_nil _ _ _ _, B1⟩
  | true =>
    rw [ht] at HL
    have h256 := tab_len ht
    have hok := fun f (hf : f ∈ l) => tab_ok ht hf
    have hle := fun k => long_take_le l k hok
    have hst := fun k (hk : k < l.length) => files_take hk
    have hsl := fun k (hk : k < l.length) => long_take hk
    have hF := fun k (hk : k < l.length) (n c0 : Nat) (A : Option Addr) (x : List UInt8) (W : World) ho hb hn => putFile_any w.heap.size n c0 A x (nth l k) W ho hb hn (hok _ (nth_mem hk)) (hu _ (nth_mem hk)) (hs _ (nth_mem hk)).2
    have hen : bytesL l = putN 2 l.length ++ filesT (l.take l.length) := by rw [bytes_t ht, tabT, List.take_length]
    have hlen : (bytesL l).length = 2 + longT (l.take l.length) := by rw [bytes_t ht, tab_len', List.take_length]
    obtain ⟨m, hm⟩ : ∃ m, m = (bytesL l).length := ⟨_, rfl⟩
    have hm2 : m ≤ 40000 := by rw [hm, bytes_t ht]; have := tab_short ht; omega
    rw [← hm] at HL
    obtain ⟨n, hn⟩ : ∃ n, n = l.length := ⟨_, rfl⟩
    rw [← hn] at h3 h1 h256 hen hlen HL ⊢
    have hN := fun (c0 : Nat) (A : Option Addr) (W : World) ho hb => putNumber_any w.heap.size 0 c0 n 2 A [] W ho hb (by omega) (by omega) (by omega)
    have hmk := fun W => mk0 m (by omega) W
    have e1 : (n : Int) % (18446744073709551616 : Int) = (n : Int) := u64_of_nat (by omega)
    replace HL := hide HL; replace hle := hide hle; replace hst := hide hst; replace hsl := hide hsl; replace hen := hide hen; replace hlen := hide hlen; replace hn := hide hn; replace h3 := hide h3; replace h1 := hide h1; replace hm := hide hm; replace hN := hide hN; replace hF := hide hF; replace hmk := hide hmk
    clear hs hu hok ht
    go_enter Try.func10, Try.ntmps10
    go_upto_region 4 with (first
      | (go_at_call 14; refine (unhide HL).mono ?_; rintro e w1 ⟨rfl, B1⟩)
      | fail)
    obtain ⟨cs, hcs, hrun⟩ := unhide hmk w1
    have o1 : (w1.alloc (.cells cs 5)).ownsRow w.heap.size 5 1 (.slice (some ⟨w1.heap.size, 0, none⟩) 0 m) 0 (([] : List UInt8).flatMap bc) := own_fresh _ _ _ 5 1 m cs rfl B1.size (by simp only [maxLen]; omega) hcs
    have B2 := B1.alloc B1.size (.cells cs 5)
    replace o1 := hide o1; replace B2 := hide B2
    clear hcs hmk
    go_wp2_with (first
      | (go_at_call 22; refine (unhide hN _ _ _ (unhide o1) (unhide B2).size).mono ?_; rintro e w2 ⟨A2, c2, rfl, o2, B3, _⟩; have B4 := hide ((unhide B2).trans B3); clear B3; replace o2 := hide o2)
      | fail)
    clear o1 B1 B2 hrun
    go_loopw [6, 25] (fun s i wr => ∃ (k p c' : Nat) (A' : Option Addr), k ≤ n ∧ s = .slice A' p c' ∧ p ≤ 40000 ∧ Hid (p = 2 + longT (l.take k)) ∧ i = .int .i64 k ∧ Hid (wr.ownsRow w.heap.size 5 1 (.slice A' p c') p ((putN 2 n ++ filesT (l.take k)).flatMap bc)) ∧ Hid (Below w.heap.size w wr)) (fun _ i _ => n - (intOf i).toNat)
    case atStart => exact ⟨0, 2, c2, A2, Nat.zero_le _, rfl, by omega, hide rfl, rfl, hide (by simpa [filesT] using unhide o2), B4⟩
    case round =>
      obtain ⟨k, p, c', A', hk, rfl, hp, hpe, rfl, ho, hB⟩ := hrel
      by_cases hlt : k < n
      · have ha : k < l.length := by rw [← unhide hn]; exact hlt
        obtain ⟨g, off, rfl, _, hg, hc⟩ := unhide h3 k hlt
        have q1 : g < wr.heap.size := Nat.lt_of_lt_of_le (Nat.lt_of_lt_of_le hg hhi) (unhide hB).size
        have hs1 := unhide hst k ha
        have hs3 := unhide hsl k ha
        have hs2 := unhide hle (k + 1)
        have hF1 := fun x W ho hb => unhide hF k ha p c' A' x W ho hb (by omega)
        obtain ⟨f, hf⟩ : ∃ f, f = nth l k := ⟨_, rfl⟩
        rw [← hf] at hc hs1 hs3 hF1
        have hB0 : Hid (Below w.heap.size w (wr.alloc (.cells #[.string (bz f.nm), .float .f64 f.rk, .int .u32 f.sm, .int .i64 f.bk, .int .i64 f.fr, .int .i64 f.ln] 26))) := hide ((unhide hB).alloc (unhide hB).size _)
        have ho0 : Hid ((wr.alloc (.cells #[.string (bz f.nm), .float .f64 f.rk, .int .u32 f.sm, .int .i64 f.bk, .int .i64 f.fr, .int .i64 f.ln] 26)).ownsRow w.heap.size 5 1 (.slice A' p c') p ((putN 2 n ++ filesT (l.take k)).flatMap bc)) := hide (World.ownsRow.alloc (unhide ho) _)
        obtain ⟨c0, c1, c2, c3, c4, c5⟩ := six (below_load (unhide hB) (Nat.lt_of_lt_of_le hg hhi) hc)
        have hpe' := unhide hpe
        have hp2 : p + (21 + f.nm.length) ≤ 40000 := by omega
        have hpe2 : p + (21 + f.nm.length) = 2 + longT (l.take (k + 1)) := by omega
        have hx : (putN 2 n ++ filesT (l.take k)) ++ fileT f = putN 2 n ++ filesT (l.take (k + 1)) := by rw [hs1, List.append_assoc]
        clear hc hf ha hs1 hs2 hs3 hpe'
        replace hpe2 := hide hpe2; replace hp2 := hide hp2; replace hx := hide hx; replace hF1 := hide hF1
        go_wp2_with (first
          | (go_at_call 23; refine (unhide hF1 _ _ (unhide ho0) (unhide hB0).size).mono ?_; rintro e w3 ⟨A3, c3', rfl, o3, B3, _⟩; rw [unhide hx] at o3)
          | fail)
        go_roundw
        case rel => exact ⟨k + 1, p + (21 + f.nm.length), c3', A3, by omega, rfl, unhide hp2, hpe2, by go_num, hide o3, hide ((unhide hB0).trans B3)⟩
        case measure => simp [intOf]; omega
      · obtain rfl : k = n := by omega
        have he : m = p := by rw [unhide hm, unhide hlen, unhide hpe]
        subst he
        have he2 := unhide hen
        have ho' := unhide ho
        rw [← he2] at ho'
        replace ho' := hide ho'
        clear he2
        go_wp2
        go_ret2
        refine ⟨A', c', ?_, by rw [← unhide hm]; exact unhide ho', unhide hB⟩
        rw [← unhide hm]
        exact ret_te rfl rfl
end Go.Proofs.Ytnjepbehfioclaa
