import Derived.Test.YtlgahaidnpgnaaaDoorN24
namespace Go.Proofs.YtlgahaidnpgnaaaDoor
open Go.RowKit

/-! ### each call of the program, and the reference's, with one answer -/
theorem bs_nil (W : World) : Bs 0 W.heap.size W (.slice none 0 0) [] := Bs.nil0 W
theorem seal_all (s : St) (n : Nx) (b : List UInt8) : ∃ (P : Bx) (Qs : St) (Qn : Nx) (E : Int),
    (∀ v W, Tab W → Bs 0 W.heap.size W v b → Calls Tryd.prog 10 #[rgV s n, v] W fun e w' => ∃ A c, e = .returned (.tuple #[bxV P.n (.slice A P.text.length c) P.tag, rgV Qs Qn, .int .i64 E]) ∧ OwnB w' W.heap.size (.slice A P.text.length c) P.text ∧ Below W.heap.size W w') ∧
    (∀ v W, Bs 0 W.heap.size W v b → Calls Tryd.prog 11 #[rgV s n, v] W fun e w' => ∃ A c, e = .returned (.tuple #[bxV P.n (.slice A P.text.length c) P.tag, rgV Qs Qn, .int .i64 E]) ∧ OwnB w' W.heap.size (.slice A P.text.length c) P.text ∧ Below W.heap.size W w') := by
  by_cases hl : 65536 < b.length
  · refine ⟨⟨0#64, [], zS⟩, zS, 0#64, 3, fun v W ht h => ?_, fun v W h => ?_⟩
    · exact (Seal_long 0 s n v b W h hl).mono fun e w' ⟨he, hb⟩ => ⟨none, 0, he, World.ownsRow_nil _ _ _ _, hb⟩
    · exact (SealR_long 0 s n v b W h hl).mono fun e w' ⟨he, hb⟩ => ⟨none, 0, he, World.ownsRow_nil _ _ _ _, hb⟩
  · by_cases hn : n = 18446744073709551615#64
    · refine ⟨⟨0#64, [], zS⟩, zS, 0#64, 6, fun v W ht h => ?_, fun v W h => ?_⟩
      · rw [hn]; exact (Seal_full 0 s v b W h (by omega)).mono fun e w' ⟨he, hb⟩ => ⟨none, 0, he, World.ownsRow_nil _ _ _ _, hb⟩
      · rw [hn]; exact (SealR_full 0 s v b W h (by omega)).mono fun e w' ⟨he, hb⟩ => ⟨none, 0, he, World.ownsRow_nil _ _ _ _, hb⟩
    · refine ⟨⟨n, hidF s n b, tagF s n (hidF s n b)⟩, s, n + 1#64, 0, fun v W ht h => ?_, fun v W h => ?_⟩
      · simp only [hid_len]; exact Seal_good s n v b W ht h (by omega) hn
      · simp only [hid_len]; exact SealR_good s n v b W h (by omega) hn
theorem open_all (s : St) (n : Nx) (b : List UInt8) (t : St) : ∃ (U : List UInt8) (E : Int),
    (∀ v W, Tab W → Bs 0 W.heap.size W v b → Calls Tryd.prog 12 #[stV s, bxV n v t] W fun e w' => ∃ A c, e = .returned (.tuple #[.slice A U.length c, .int .i64 E]) ∧ OwnB w' W.heap.size (.slice A U.length c) U ∧ Below W.heap.size W w') ∧
    (∀ v W, Bs 0 W.heap.size W v b → Calls Tryd.prog 13 #[stV s, bxV n v t] W fun e w' => ∃ A c, e = .returned (.tuple #[.slice A U.length c, .int .i64 E]) ∧ OwnB w' W.heap.size (.slice A U.length c) U ∧ Below W.heap.size W w') := by
  by_cases hl : 65536 < b.length
  · refine ⟨[], 3, fun v W ht h => ?_, fun v W h => ?_⟩
    · exact (Open_long 0 s n v b t W h hl).mono fun e w' ⟨he, hb⟩ => ⟨none, 0, he, World.ownsRow_nil _ _ _ _, hb⟩
    · exact (OpenR_long 0 s n v b t W h hl).mono fun e w' ⟨he, hb⟩ => ⟨none, 0, he, World.ownsRow_nil _ _ _ _, hb⟩
  · cases hz : sameS (tagF s n b) t with
    | true =>
      refine ⟨hidF s n b, 0, fun v W ht h => ?_, fun v W h => ?_⟩
      · have q := Open_any s n v b t W ht h (by omega)
        rw [hz] at q
        simp only [if_true] at q
        rw [hid_len]
        exact q.mono fun e w' ⟨⟨A, c, he, ho⟩, hb⟩ => ⟨A, c, he, ho, hb⟩
      · have q := OpenR_any s n v b t W h (by omega)
        rw [hz] at q
        simp only [if_true] at q
        rw [hid_len]
        exact q.mono fun e w' ⟨⟨A, c, he, ho⟩, hb⟩ => ⟨A, c, he, ho, hb⟩
    | false =>
      refine ⟨[], 8, fun v W ht h => ?_, fun v W h => ?_⟩
      · have q := Open_any s n v b t W ht h (by omega)
        rw [hz] at q
        simp only [Bool.false_eq_true, if_false] at q
        exact q.mono fun e w' ⟨he, hb⟩ => ⟨none, 0, he, World.ownsRow_nil _ _ _ _, hb⟩
      · have q := OpenR_any s n v b t W h (by omega)
        rw [hz] at q
        simp only [Bool.false_eq_true, if_false] at q
        exact q.mono fun e w' ⟨he, hb⟩ => ⟨none, 0, he, World.ownsRow_nil _ _ _ _, hb⟩
theorem bytes_all (n : Nx) (b : List UInt8) (t : St) : ∃ (U : List UInt8) (E : Int),
    (∀ v W, Bs 0 W.heap.size W v b → Calls Tryd.prog 14 #[bxV n v t] W fun e w' => ∃ A c, e = .returned (.tuple #[.slice A U.length c, .int .i64 E]) ∧ OwnB w' W.heap.size (.slice A U.length c) U ∧ Below W.heap.size W w') ∧
    (∀ v W, Bs 0 W.heap.size W v b → Calls Tryd.prog 15 #[bxV n v t] W fun e w' => ∃ A c, e = .returned (.tuple #[.slice A U.length c, .int .i64 E]) ∧ OwnB w' W.heap.size (.slice A U.length c) U ∧ Below W.heap.size W w') := by
  by_cases hl : 65536 < b.length
  · refine ⟨[], 3, fun v W h => ?_, fun v W h => ?_⟩
    · exact (Bytes_long 0 n v b t W h hl).mono fun e w' ⟨he, hb⟩ => ⟨none, 0, he, World.ownsRow_nil _ _ _ _, hb⟩
    · exact (BytesR_long 0 n v b t W h hl).mono fun e w' ⟨he, hb⟩ => ⟨none, 0, he, World.ownsRow_nil _ _ _ _, hb⟩
  · exact ⟨bytesF ⟨n, b, t⟩, 0, fun v W h => Bytes_good n v b t W h (by omega), fun v W h => BytesR_good n v b t W h (by omega)⟩
theorem from_all (b : List UInt8) : ∃ (P : Bx) (E : Int),
    (∀ v W, Bs 0 W.heap.size W v b → Calls Tryd.prog 16 #[v] W fun e w' => ∃ A c, e = .returned (.tuple #[bxV P.n (.slice A P.text.length c) P.tag, .int .i64 E]) ∧ OwnB w' W.heap.size (.slice A P.text.length c) P.text ∧ Below W.heap.size W w') ∧
    (∀ v W, Bs 0 W.heap.size W v b → Calls Tryd.prog 17 #[v] W fun e w' => ∃ A c, e = .returned (.tuple #[bxV P.n (.slice A P.text.length c) P.tag, .int .i64 E]) ∧ OwnB w' W.heap.size (.slice A P.text.length c) P.text ∧ Below W.heap.size W w') := by
  by_cases h1 : b.length < 24
  · refine ⟨⟨0#64, [], zS⟩, 2, fun v W h => ?_, fun v W h => ?_⟩
    · exact (From_short 0 v b W h h1).mono fun e w' ⟨he, hb⟩ => ⟨none, 0, he, World.ownsRow_nil _ _ _ _, hb⟩
    · exact (FromR_short 0 v b W h h1).mono fun e w' ⟨he, hb⟩ => ⟨none, 0, he, World.ownsRow_nil _ _ _ _, hb⟩
  · by_cases h2 : 65560 < b.length
    · refine ⟨⟨0#64, [], zS⟩, 3, fun v W h => ?_, fun v W h => ?_⟩
      · exact (From_long 0 v b W h h2).mono fun e w' ⟨he, hb⟩ => ⟨none, 0, he, World.ownsRow_nil _ _ _ _, hb⟩
      · exact (FromR_long 0 v b W h h2).mono fun e w' ⟨he, hb⟩ => ⟨none, 0, he, World.ownsRow_nil _ _ _ _, hb⟩
    · exact ⟨fromF b, 0, fun v W h => From_good v b W h (by omega) (by omega), fun v W h => FromR_good v b W h (by omega) (by omega)⟩
theorem stream_all (s : St) (n : Nx) (z : Int) : ∃ (U : List UInt8) (E : Int),
    (∀ W, Tab W → Calls Tryd.prog 18 #[stV s, u64v n, .int .i64 z] W fun e w' => ∃ A c, e = .returned (.tuple #[.slice A U.length c, .int .i64 E]) ∧ Bs 0 w'.heap.size w' (.slice A U.length c) U ∧ Below W.heap.size W w') ∧
    (∀ W, Calls Tryd.prog 19 #[stV s, u64v n, .int .i64 z] W fun e w' => ∃ A c, e = .returned (.tuple #[.slice A U.length c, .int .i64 E]) ∧ Bs 0 w'.heap.size w' (.slice A U.length c) U ∧ Below W.heap.size W w') := by
  by_cases h1 : z < 0
  · refine ⟨[], 1, fun W ht => ?_, fun W => ?_⟩
    · exact (Stream18_neg s n z W h1).mono fun e w' ⟨he, hb⟩ => ⟨none, 0, he, bs_nil _, hb⟩
    · exact (Stream19_neg s n z W h1).mono fun e w' ⟨he, hb⟩ => ⟨none, 0, he, bs_nil _, hb⟩
  · by_cases h2 : 65536 < z
    · refine ⟨[], 3, fun W ht => ?_, fun W => ?_⟩
      · exact (Stream18_long s n z W h2).mono fun e w' ⟨he, hb⟩ => ⟨none, 0, he, bs_nil _, hb⟩
      · exact (Stream19_long s n z W h2).mono fun e w' ⟨he, hb⟩ => ⟨none, 0, he, bs_nil _, hb⟩
    · obtain ⟨k, rfl⟩ := Int.eq_ofNat_of_zero_le (show 0 ≤ z by omega)
      refine ⟨streamF s n k, 0, fun W ht => ?_, fun W => ?_⟩
      · rw [stream_len]; exact (Stream_good s n k W ht (by omega)).mono fun e w' ⟨A, c, he, ho, hb⟩ => ⟨A, c, he, Bs.of_own0 ho, hb⟩
      · rw [stream_len]; exact (StreamR_good s n k W (by omega)).mono fun e w' ⟨A, c, he, ho, hb⟩ => ⟨A, c, he, ho.mono (Nat.zero_le _) (Nat.le_refl _), hb⟩
theorem tag_all (s : St) (n : Nx) (b : List UInt8) : ∃ (T : St) (E : Int),
    (∀ v W, Tab W → Bs 0 W.heap.size W v b → Calls Tryd.prog 20 #[stV s, u64v n, v] W fun e w' => e = .returned (.tuple #[stV T, .int .i64 E]) ∧ Below W.heap.size W w') ∧
    (∀ v W, Bs 0 W.heap.size W v b → Calls Tryd.prog 21 #[stV s, u64v n, v] W fun e w' => e = .returned (.tuple #[stV T, .int .i64 E]) ∧ Below W.heap.size W w') := by
  by_cases hl : 65536 < b.length
  · exact ⟨zS, 3, fun v W ht h => Tag20_long 0 s n v b W h hl, fun v W h => Tag21_long 0 s n v b W h hl⟩
  · exact ⟨tagF s n b, 0, fun v W ht h => Tag_good s n v b W ht h (by omega), fun v W h => TagR_good s n v b W h (by omega)⟩

/-! ### rings compared -/
theorem equalIn_stD (d : Nat) (w : World) (s t : St) : (Op.equalIn (d + 1 + 1) 24 (stV s) (stV t)).run Tryd.prog w = .ok (sameS s t) w := by
  rw [← same4_iff]
  obtain ⟨a, b, c, e⟩ := s
  obtain ⟨a', b', c', e'⟩ := t
  show (Op.equalIn (d + 1 + 1) 24 (.agg #[.int .u32 (n32 a), .int .u32 (n32 b), .int .u32 (n32 c), .int .u32 (n32 e)]) (.agg #[.int .u32 (n32 a'), .int .u32 (n32 b'), .int .u32 (n32 c'), .int .u32 (n32 e')])).run Tryd.prog w = _
  simp only []
  generalize n32 a = xa, n32 b = xb, n32 c = xc, n32 e = xd, n32 a' = ya, n32 b' = yb, n32 c' = yc, n32 e' = yd
  rw [Op.equalIn]
  simp only [Sem.run_bind, run_underlying Tryd.underlying24, Result.andThen_ok, size22]
  simp only [Std.Legacy.Range.forIn_eq_forIn_range', Std.Legacy.Range.size, List.range', Nat.sub_zero, Nat.add_one_sub_one, Nat.div_one, List.forIn_cons, List.forIn_nil, Sem.run_bind, Nat.mul_one, part22_0, Result.andThen_ok, Nat.zero_add, Nat.reduceAdd, eqInt22]
  cases h0 : xa == ya <;> cases h1 : xb == yb <;> cases h2 : xc == yc <;> cases h3 : xd == yd <;> simp [part22_1, part22_2, part22_3, eqInt22, h1, h2, h3, Result.andThen]
theorem part27_0 (w : World) (a b c d e : Value) : (part 24 #[a, b, c, d, e] 0).run Tryd.prog w = .ok (.agg #[a, b, c, d]) w := by kernel_rfl
theorem part27_1 (w : World) (a b c d e : Value) : (part 25 #[a, b, c, d, e] 4).run Tryd.prog w = .ok e w := by kernel_rfl
theorem fields27 : (Tryd.prog.fieldsOf 27).toList = [{ name := "Key", type := 24, offset := 0, embedded := false, tag := "", pkgPath := "", byteOffset := 0 }, { name := "Next", type := 25, offset := 4, embedded := false, tag := "", pkgPath := "", byteOffset := 16 }] := by kernel_rfl
theorem under27 : Tryd.prog.underlying 27 = some (.struct (Tryd.prog.fieldsOf 27)) := by kernel_rfl
theorem held27 : Tryd.prog.stoodInHeld 27 = false := by kernel_rfl
theorem part27_a (w : World) (s : St) (n : Nx) : (part 24 (rgC s n) 0).run Tryd.prog w = .ok (stV s) w := part27_0 w _ _ _ _ _
theorem part27_b (w : World) (s : St) (n : Nx) : (part 25 (rgC s n) 4).run Tryd.prog w = .ok (u64v n) w := part27_1 w _ _ _ _ _
theorem eql_ring (w : World) (s : St) (n : Nx) : (binOp .eql 27 (rgV s n) (rgV s n)).run Tryd.prog w = .ok (.bool true) w := by
  have h : (Op.equalIn 10000 27 (rgV s n) (rgV s n)).run Tryd.prog w = .ok true w := by
    rw [show (10000 : Nat) = 9999 + 1 from rfl, run_equalIn_struct w _ 27 _ _ under27 held27, fields27]
    have e1 : (Op.equalIn 9999 24 (stV s) (stV s)).run Tryd.prog w = .ok true w := by
      have := equalIn_stD 9997 w s s
      rwa [sameS_self] at this
    have e2 : (Op.equalIn 9999 25 (u64v n) (u64v n)).run Tryd.prog w = .ok true w := by
      have := run_equalIn_int (P := Tryd.prog) w 9998 25 .u64 .u64 (n64 n) (n64 n) Tryd.underlying25
      simpa using this
    simp [Op.eqFields, part27_a, part27_b, e1, e2, Result.andThen]
  rw [run_eql_struct, h]
  rfl
theorem guard27 : Tryd.prog.eqGuardType Tryd.prog.depth 27 = false := by kernel_rfl
end Go.Proofs.YtlgahaidnpgnaaaDoor
