import Derived.Test.YtnjepbehfioclaaR3
namespace Go.Proofs.Ytnjepbehfioclaa
open Go.RowKit
attribute [local go_sem] bz_size bz_toList run_store_float
set_option maxRecDepth 100000

theorem reads_num (g n : Nat) (l : List UInt8) (hn : n ≤ l.length) (hn4 : n ≤ 4) : Reads 41 g #[.pointer (some ⟨g, 0, none⟩), .int .i64 (n : Int)] l (l.drop n) (.int .i64 ((numN (l.take n) : Nat) : Int)) := fun W h => rnum_some g n l W h hn hn4
theorem stops_num (g n : Nat) (l : List UInt8) (hn : l.length < n) : Stops 41 g #[.pointer (some ⟨g, 0, none⟩), .int .i64 (n : Int)] l := fun W h => (rnum_none g n l W h hn).mono fun _ _ ⟨e, k⟩ => ⟨e, k ▸ But.refl _ _⟩
theorem takes_some (g n : Nat) (l : List UInt8) (hn : n ≤ l.length) : Takes g n l (l.drop n) (l.take n) := fun W h => take_some g n l W h hn
theorem stops_take (g n : Nat) (l : List UInt8) (hn : l.length < n) : Stops 54 g #[.pointer (some ⟨g, 0, none⟩), .int .i64 (n : Int)] l := fun W h => (take_none g n l W h hn).mono fun _ _ ⟨e, k⟩ => ⟨e, k ▸ But.refl _ _⟩
theorem num_cons (n : UInt8) (r : List UInt8) : numN ((n :: r).take 1) = n.toNat := by simp [numN]
theorem num4_lt (l : List UInt8) : numN (l.take 4) < 4294967296 := num_take_lt l 4
theorem file_some (g : Nat) (l : List UInt8) (f : Fl) (r : List UInt8) (h : fileR l = some (f, r)) (w : World) (hR : RdB g w l) :
    Calls Try.prog 42 #[.pointer (some ⟨g, 0, none⟩)] w fun e w' => e = .returned (.agg #[.string (bz f.nm), .float .f64 f.rk, .int .u32 f.sm, .int .i64 f.bk, .int .i64 f.fr, .int .i64 f.ln]) ∧ RdB g w' r ∧ But [g] w w' := by
  cases l with
  | nil => cases h
  | cons n l =>
    unfold fileR at h
    simp only [] at h
    split at h
    · cases h
    · rename_i h0
      have hql : (l.drop n.toNat).length = l.length - n.toNat := List.length_drop
      have hq : 20 ≤ (l.drop n.toNat).length := by omega
      have H1 := reads_num g 1 (n :: l) (by simp) (by omega)
      rw [num_cons] at H1
      have H2 := takes_some g n.toNat l (by omega)
      generalize l.drop n.toNat = q at *
      split at h
      · rename_i he
        injection h with h
        injection h with h1 h2
        subst h1 h2
        have H3 : Reads 55 g #[.pointer (some ⟨g, 0, none⟩)] q (q.drop 8) (.float .f64 (ofF (numN (q.take 8)))) := fun W hW => rank_some g q W hW (by omega) he
        have H4 := reads_num g 4 (q.drop 8) (by rw [List.length_drop]; omega) (by omega)
        have H5 := reads_num g 2 (q.drop 12) (by rw [List.length_drop]; omega) (by omega)
        have H6 := reads_num g 3 (q.drop 14) (by rw [List.length_drop]; omega) (by omega)
        have H7 := reads_num g 3 (q.drop 17) (by rw [List.length_drop]; omega) (by omega)
        rw [List.drop_drop] at H4 H5 H6 H7
        exact file_ok g _ _ _ _ _ _ _ _ _ _ _ _ _ _ _ H1 H2 H3 H4 H5 H6 H7 (num4_lt _) w hR
      · cases h
theorem file_none (g : Nat) (l : List UInt8) (h : fileR l = none) (w : World) (hR : RdB g w l) :
    Calls Try.prog 42 #[.pointer (some ⟨g, 0, none⟩)] w fun e w' => e = stopE ∧ But [g] w w' := by
  cases l with
  | nil => exact file_bad1 g _ (stops_num g 1 [] (by simp)) w hR
  | cons n l =>
    have H1 := reads_num g 1 (n :: l) (by simp) (by omega)
    rw [num_cons] at H1
    unfold fileR at h
    simp only [] at h
    by_cases hn : l.length < n.toNat
    · exact file_bad2 g _ _ _ H1 (stops_take g n.toNat l hn) w hR
    · have hql : (l.drop n.toNat).length = l.length - n.toNat := List.length_drop
      have H2 := takes_some g n.toNat l (by omega)
      have hif : (l.length < n.toNat + 20) ↔ (l.drop n.toNat).length < 20 := by omega
      generalize l.drop n.toNat = q at *
      by_cases h8 : q.length < 8
      · exact file_bad3 g _ _ _ _ _ H1 H2 (fun W hW => rank_short g q W hW h8) w hR
      · by_cases he : ofE (numN (q.take 8)) = 0
        · have H3 : Reads 55 g #[.pointer (some ⟨g, 0, none⟩)] q (q.drop 8) (.float .f64 (ofF (numN (q.take 8)))) := fun W hW => rank_some g q W hW (by omega) he
          by_cases h12 : q.length < 12
          · exact file_bad4 g _ _ _ _ _ _ _ H1 H2 H3 (stops_num g 4 (q.drop 8) (by rw [List.length_drop]; omega)) w hR
          · have H4 := reads_num g 4 (q.drop 8) (by rw [List.length_drop]; omega) (by omega)
            rw [List.drop_drop] at H4
            by_cases h14 : q.length < 14
            · exact file_bad5 g _ _ _ _ _ _ _ _ _ H1 H2 H3 H4 (stops_num g 2 (q.drop 12) (by rw [List.length_drop]; omega)) (num4_lt _) w hR
            · have H5 := reads_num g 2 (q.drop 12) (by rw [List.length_drop]; omega) (by omega)
              rw [List.drop_drop] at H5
              by_cases h17 : q.length < 17
              · exact file_bad6 g _ _ _ _ _ _ _ _ _ _ _ H1 H2 H3 H4 H5 (stops_num g 3 (q.drop 14) (by rw [List.length_drop]; omega)) (num4_lt _) w hR
              · have H6 := reads_num g 3 (q.drop 14) (by rw [List.length_drop]; omega) (by omega)
                rw [List.drop_drop] at H6
                by_cases h20 : q.length < 20
                · exact file_bad7 g _ _ _ _ _ _ _ _ _ _ _ _ _ H1 H2 H3 H4 H5 H6 (stops_num g 3 (q.drop 17) (by rw [List.length_drop]; omega)) (num4_lt _) w hR
                · rw [if_neg (fun hc => h20 (hif.1 hc)), if_pos he] at h
                  cases h
        · exact file_bad3 g _ _ _ _ _ H1 H2 (fun W hW => rank_bad g q W hW (by omega) he) w hR
end Go.Proofs.Ytnjepbehfioclaa
