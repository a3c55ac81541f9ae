import Derived.Test.YteokimebfbnlkaaA7
namespace Go.Proofs.Yteokimebfbnlkaa
open Go.RowKit

/-- What the reference's Keep (b false, z 4) and Give (b true, z 5) answer. -/
def RefOut (b : Bool) (z : Int) (x : Xs) (s : Ex) (y : Xs) (e : Int) : Prop :=
  ((okX x && isOfB s x.size) = false ∧ y = ⟨0, []⟩ ∧ e = 1) ∨
  (okX x = true ∧ isOfB s x.size = true ∧
    ((e = 0 ∧ (∀ t, inB s s.len t = true → freeB x.free t = !b) ∧ y = ⟨x.size, runs (setB (freeB x.free) s b s.len) x.size.toNat⟩) ∨
     (e = z ∧ y = ⟨0, []⟩ ∧ ∃ t, inB s s.len t = true ∧ freeB x.free t = b)))

set_option maxRecDepth 100000 in
set_option maxHeartbeats 4000000 in
theorem refkeep_any (lo : Nat) (v : Value) (x : Xs) (s : Ex) (w : World) (h : XsR lo w.heap.size w v x) :
    Calls Try.prog 14 #[v, exV s] w fun e w' => ∃ A c, ∃ y : Xs, ∃ z : Int, e = .returned (.tuple #[.agg #[.int .i64 y.size, .slice A y.free.length c], .int .i64 z]) ∧ RefOut false 4 x s y z ∧
      w'.ownsRow w.heap.size 26 2 (.slice A y.free.length c) y.free.length (y.free.flatMap exv) ∧ Below w.heap.size w w' := by
  have hchk := fun W (hW : Below w.heap.size w W) => refcheck_any lo v x W (h.grow hW)
  have hset := fun n W (hW : Below w.heap.size w W) => set_any lo n v x s false W (h.grow hW)
  have his := fun W => refis_any s x.size W
  obtain ⟨bb, rfl, hb⟩ := h
  obtain ⟨A, c, rfl, h1, h2, h9⟩ := hb.open
  clear h9 hb
  obtain ⟨sa, sl⟩ := s
  unfold exV at *
  try dsimp only at hchk hset his ⊢
  replace hchk := hide hchk; replace hset := hide hset; replace his := hide his
  generalize hN : x.free.length = N at *
  replace hN := hide hN
  generalize hm : x.size = m at *
  obtain ⟨w3, hw3⟩ : ∃ w3, w3 = ((w.alloc (.cells #[.int .i64 m, .slice A N c] 24)).alloc (.cells #[.int .i64 sa, .int .i64 sl] 26)).alloc (.cells #[.int .i64 0, .slice none 0 0] 24) := ⟨_, rfl⟩
  have B3 : Below w.heap.size w w3 := by rw [hw3]; (repeat (first | with_reducible exact Below.refl _ _ | with_reducible assumption | with_reducible refine Below.drew ?_ | with_reducible refine bl_alloc ?_ _ | with_reducible refine bl_call ?_ (by assumption) | (focus (with_reducible refine Below.setCell ?_ ?_ _; rotate_left; focus (first | omega | (simp <;> omega)))) | fail))
  have X3 : Blk w3 w.heap.size 24 #[.int .i64 m, .slice A N c] := by rw [hw3]; exact ((Blk.new rfl).alloc _).alloc _
  have S3 : Blk w3 (w.heap.size + 1) 26 #[.int .i64 sa, .int .i64 sl] := by rw [hw3]; exact (Blk.new (by simp)).alloc _
  have R3 : Blk w3 (w.heap.size + 1 + 1) 24 #[.int .i64 0, .slice none 0 0] := by rw [hw3]; exact Blk.new (by simp)
  have hc3 := unhide hchk w3 B3
  replace hc3 := hide hc3; replace B3 := hide B3; replace X3 := hide X3; replace S3 := hide S3; replace R3 := hide R3; replace hw3 := hide hw3
  cases hok : okX x with
  | false =>
    rw [hok] at hc3
    have hbad : RefOut false 4 x ⟨sa, sl⟩ ⟨0, []⟩ 1 := .inl ⟨by simp [hok], rfl, rfl⟩
    replace hbad := hide hbad; replace hok := hide hok
    clear hchk hset his
    go_enter Try.func14, Try.ntmps14
    go_wp2_with (first
      | (go_at_call 23; rw [← unhide hw3]; refine (unhide hc3).mono ?_; rintro e w4 ⟨rfl, hb4⟩
         have R4 := (unhide R3).below hb4 (unhide R3).lt
         have B4 := bl_call (unhide B3) hb4
         have q0 := R4.cell 0; have q1 := R4.cell 1; have f0 := R4.frozen 0; have f1 := R4.frozen 1; have y4 := R4.lt
         simp at q0 q1
         replace R4 := hide R4; replace B4 := hide B4; clear hb4)
      | fail)
    have B5 := unhide B4
    exact ret_xs2 rfl (w.heap.size + 1 + 1) (.int .i64 0) (.slice none 0 0) (.int .i64 1) rfl rfl (Blk.set2 (unhide R4)) rfl ⟨none, 0, ⟨0, []⟩, 1, rfl, unhide hbad, World.ownsRow_nil _ _ _ _, by (repeat (first | with_reducible exact Below.refl _ _ | with_reducible assumption | with_reducible refine Below.drew ?_ | with_reducible refine bl_alloc ?_ _ | with_reducible refine bl_call ?_ (by assumption) | (focus (with_reducible refine Below.setCell ?_ ?_ _; rotate_left; focus (first | omega | (simp <;> omega)))) | fail))⟩
  | true =>
    rw [hok] at hc3
    have hm2 : 0 ≤ m ∧ m ≤ 8192 := by
      have := hok
      simp only [okX, Bool.and_eq_true, decide_eq_true_eq] at this
      omega
    obtain ⟨n, rfl⟩ : ∃ n : Nat, m = n := ⟨m.toNat, by omega⟩
    have his' := fun W => unhide his W hm2.1 hm2.2
    replace his' := hide his'
    clear hm2 his
    cases ho : isOfB ⟨sa, sl⟩ (n : Int) with
    | false =>
      have hbad : RefOut false 4 x ⟨sa, sl⟩ ⟨0, []⟩ 1 := .inl ⟨by rw [hm]; simp [ho], rfl, rfl⟩
      rw [ho] at his'
      replace hbad := hide hbad; replace hok := hide hok; replace ho := hide ho; replace hm := hide hm
      clear hchk hset
      go_enter Try.func14, Try.ntmps14
      go_wp2_with (first
        | (go_at_call 23; rw [← unhide hw3]; refine (unhide hc3).mono ?_; rintro e w4 ⟨rfl, hb4⟩
           have R4 := (unhide R3).below hb4 (unhide R3).lt
           have S4 := (unhide S3).below hb4 (unhide S3).lt
           have X4 := (unhide X3).below hb4 (unhide X3).lt
           have B4 := bl_call (unhide B3) hb4
           have x0 := X4.cell 0; have x1 := X4.cell 1; have s0 := S4.cell 0; have s1 := S4.cell 1; have y4 := X4.lt; have y5 := S4.lt
           simp at x0 x1 s0 s1
           replace R4 := hide R4; replace B4 := hide B4; clear hb4 S4 X4)
        | (go_at_call 31; refine (unhide his' _).mono ?_; rintro e w5 ⟨rfl, hb5⟩
           have R5 := (unhide R4).below hb5 (unhide R4).lt
           have B5 := bl_call (unhide B4) hb5
           have q0 := R5.cell 0; have q1 := R5.cell 1; have f0 := R5.frozen 0; have f1 := R5.frozen 1; have y6 := R5.lt
           simp at q0 q1
           replace R5 := hide R5; replace B5 := hide B5; clear hb5)
        | fail)
      have B6 := unhide B5
      exact ret_xs2 rfl (w.heap.size + 1 + 1) (.int .i64 0) (.slice none 0 0) (.int .i64 1) rfl rfl (Blk.set2 (unhide R5)) rfl ⟨none, 0, ⟨0, []⟩, 1, rfl, unhide hbad, World.ownsRow_nil _ _ _ _, by (repeat (first | with_reducible exact Below.refl _ _ | with_reducible assumption | with_reducible refine Below.drew ?_ | with_reducible refine bl_alloc ?_ _ | with_reducible refine bl_call ?_ (by assumption) | (focus (with_reducible refine Below.setCell ?_ ?_ _; rotate_left; focus (first | omega | (simp <;> omega)))) | fail))⟩
    | true =>
      have hs := isOfB_iff.1 ho
      have hset' := fun W hW => unhide hset n W hW hok rfl hs
      have hgood : ∀ (y : Xs) (r : Bool), ((r = true ∧ (∀ t, inB ⟨sa, sl⟩ sl t = true → freeB x.free t = !false) ∧ y = ⟨n, runs (setB (freeB x.free) ⟨sa, sl⟩ false sl) n⟩) ∨ (r = false ∧ y = ⟨0, []⟩ ∧ ∃ t, inB ⟨sa, sl⟩ sl t = true ∧ freeB x.free t = false)) →
          RefOut false 4 x ⟨sa, sl⟩ y (if r then 0 else 4) := fun y r hr => by
        refine .inr ⟨hok, by rw [hm]; exact ho, ?_⟩
        rcases hr with ⟨rfl, a, b⟩ | ⟨rfl, a, b⟩
        · exact .inl ⟨rfl, a, by rw [hm]; exact b⟩
        · exact .inr ⟨rfl, a, b⟩
      rw [ho] at his'
      replace hset' := hide hset'; replace hgood := hide hgood; replace hok := hide hok; replace ho := hide ho; replace hm := hide hm; replace hs := hide hs
      clear hchk hset
      go_enter Try.func14, Try.ntmps14
      go_wp2_with (first
        | (go_at_call 23; rw [← unhide hw3]; refine (unhide hc3).mono ?_; rintro e w4 ⟨rfl, hb4⟩
           have R4 := (unhide R3).below hb4 (unhide R3).lt
           have S4 := (unhide S3).below hb4 (unhide S3).lt
           have X4 := (unhide X3).below hb4 (unhide X3).lt
           have B4 := bl_call (unhide B3) hb4
           have x0 := X4.cell 0; have x1 := X4.cell 1; have s0 := S4.cell 0; have s1 := S4.cell 1; have y4 := X4.lt; have y5 := S4.lt
           simp at x0 x1 s0 s1
           replace R4 := hide R4; replace B4 := hide B4; replace S4 := hide S4; replace X4 := hide X4; clear hb4)
        | (go_at_call 31; refine (unhide his' _).mono ?_; rintro e w5 ⟨rfl, hb5⟩
           have R5 := (unhide R4).below hb5 (unhide R4).lt
           have S5 := (unhide S4).below hb5 (unhide S4).lt
           have X5 := (unhide X4).below hb5 (unhide X4).lt
           have B5 := bl_call (unhide B4) hb5
           have v0 := X5.cell 0; have v1 := X5.cell 1; have t0 := S5.cell 0; have t1 := S5.cell 1; have y6 := X5.lt; have y7 := S5.lt
           simp at v0 v1 t0 t1
           replace R5 := hide R5; replace B5 := hide B5; clear hb5 S5 X5)
        | (go_at_call 32; refine (unhide hset' _ (unhide B5)).mono ?_; rintro e w6 ⟨A6, c6, y, r, rfl, hr, o6, hb6⟩
           have R6 := (unhide R5).below hb6 (unhide R5).lt
           have B6 := bl_call (unhide B5) hb6
           have q0 := R6.cell 0; have q1 := R6.cell 1; have f0 := R6.frozen 0; have f1 := R6.frozen 1; have y8 := R6.lt
           simp at q0 q1
           have hR := unhide hgood y r hr
           have h56 := (unhide B5).size
           replace o6 := hide (ownsRow_mono o6 h56); replace hR := hide hR; replace R6 := hide R6; replace B6 := hide B6; clear hb6 h56)
        | fail)
      · have hrf : r = false := by first | assumption | simp_all
        have B7 := unhide B6
        have hR' := unhide hR
        subst hrf
        obtain rfl : y = ⟨0, []⟩ := by
          rcases hr with ⟨h, _⟩ | ⟨_, h, _⟩
          · cases h
          · exact h
        exact ret_xs2 rfl (w.heap.size + 1 + 1) (.int .i64 0) (.slice none 0 0) (.int .i64 4) rfl rfl ((Blk.set2 (unhide R6)).alloc _) rfl ⟨none, 0, ⟨0, []⟩, 4, rfl, hR', World.ownsRow_nil _ _ _ _, by (repeat (first | with_reducible exact Below.refl _ _ | with_reducible assumption | with_reducible refine Below.drew ?_ | with_reducible refine bl_alloc ?_ _ | with_reducible refine bl_call ?_ (by assumption) | (focus (with_reducible refine Below.setCell ?_ ?_ _; rotate_left; focus (first | omega | (simp <;> omega)))) | fail))⟩
      · have hrt : r = true := by first | assumption | simp_all
        have B7 := unhide B6
        have hR' := unhide hR
        subst hrt
        exact ret_xs2 rfl (w.heap.size + 1 + 1) (.int .i64 y.size) (.slice A6 y.free.length c6) (.int .i64 0) rfl rfl ((Blk.set2 (unhide R6)).alloc _) rfl ⟨A6, c6, y, 0, rfl, hR', (own_far (own_far (unhide o6) (unhide R6) (by decide) 0 _) (Blk.set (unhide R6) 0 _) (by decide) 1 _).alloc _, by (repeat (first | with_reducible exact Below.refl _ _ | with_reducible assumption | with_reducible refine Below.drew ?_ | with_reducible refine bl_alloc ?_ _ | with_reducible refine bl_call ?_ (by assumption) | (focus (with_reducible refine Below.setCell ?_ ?_ _; rotate_left; focus (first | omega | (simp <;> omega)))) | fail))⟩

set_option maxRecDepth 100000 in
set_option maxHeartbeats 4000000 in
theorem refgive_any (lo : Nat) (v : Value) (x : Xs) (s : Ex) (w : World) (h : XsR lo w.heap.size w v x) :
    Calls Try.prog 16 #[v, exV s] w fun e w' => ∃ A c, ∃ y : Xs, ∃ z : Int, e = .returned (.tuple #[.agg #[.int .i64 y.size, .slice A y.free.length c], .int .i64 z]) ∧ RefOut true 5 x s y z ∧
      w'.ownsRow w.heap.size 26 2 (.slice A y.free.length c) y.free.length (y.free.flatMap exv) ∧ Below w.heap.size w w' := by
  have hchk := fun W (hW : Below w.heap.size w W) => refcheck_any lo v x W (h.grow hW)
  have hset := fun n W (hW : Below w.heap.size w W) => set_any lo n v x s true W (h.grow hW)
  have his := fun W => refis_any s x.size W
  obtain ⟨bb, rfl, hb⟩ := h
  obtain ⟨A, c, rfl, h1, h2, h9⟩ := hb.open
  clear h9 hb
  obtain ⟨sa, sl⟩ := s
  unfold exV at *
  try dsimp only at hchk hset his ⊢
  replace hchk := hide hchk; replace hset := hide hset; replace his := hide his
  generalize hN : x.free.length = N at *
  replace hN := hide hN
  generalize hm : x.size = m at *
  obtain ⟨w3, hw3⟩ : ∃ w3, w3 = ((w.alloc (.cells #[.int .i64 m, .slice A N c] 24)).alloc (.cells #[.int .i64 sa, .int .i64 sl] 26)).alloc (.cells #[.int .i64 0, .slice none 0 0] 24) := ⟨_, rfl⟩
  have B3 : Below w.heap.size w w3 := by rw [hw3]; (repeat (first | with_reducible exact Below.refl _ _ | with_reducible assumption | with_reducible refine Below.drew ?_ | with_reducible refine bl_alloc ?_ _ | with_reducible refine bl_call ?_ (by assumption) | (focus (with_reducible refine Below.setCell ?_ ?_ _; rotate_left; focus (first | omega | (simp <;> omega)))) | fail))
  have X3 : Blk w3 w.heap.size 24 #[.int .i64 m, .slice A N c] := by rw [hw3]; exact ((Blk.new rfl).alloc _).alloc _
  have S3 : Blk w3 (w.heap.size + 1) 26 #[.int .i64 sa, .int .i64 sl] := by rw [hw3]; exact (Blk.new (by simp)).alloc _
  have R3 : Blk w3 (w.heap.size + 1 + 1) 24 #[.int .i64 0, .slice none 0 0] := by rw [hw3]; exact Blk.new (by simp)
  have hc3 := unhide hchk w3 B3
  replace hc3 := hide hc3; replace B3 := hide B3; replace X3 := hide X3; replace S3 := hide S3; replace R3 := hide R3; replace hw3 := hide hw3
  cases hok : okX x with
  | false =>
    rw [hok] at hc3
    have hbad : RefOut true 5 x ⟨sa, sl⟩ ⟨0, []⟩ 1 := .inl ⟨by simp [hok], rfl, rfl⟩
    replace hbad := hide hbad; replace hok := hide hok
    clear hchk hset his
    go_enter Try.func16, Try.ntmps16
    go_wp2_with (first
      | (go_at_call 23; rw [← unhide hw3]; refine (unhide hc3).mono ?_; rintro e w4 ⟨rfl, hb4⟩
         have R4 := (unhide R3).below hb4 (unhide R3).lt
         have B4 := bl_call (unhide B3) hb4
         have q0 := R4.cell 0; have q1 := R4.cell 1; have f0 := R4.frozen 0; have f1 := R4.frozen 1; have y4 := R4.lt
         simp at q0 q1
         replace R4 := hide R4; replace B4 := hide B4; clear hb4)
      | fail)
    have B5 := unhide B4
    exact ret_xs2 rfl (w.heap.size + 1 + 1) (.int .i64 0) (.slice none 0 0) (.int .i64 1) rfl rfl (Blk.set2 (unhide R4)) rfl ⟨none, 0, ⟨0, []⟩, 1, rfl, unhide hbad, World.ownsRow_nil _ _ _ _, by (repeat (first | with_reducible exact Below.refl _ _ | with_reducible assumption | with_reducible refine Below.drew ?_ | with_reducible refine bl_alloc ?_ _ | with_reducible refine bl_call ?_ (by assumption) | (focus (with_reducible refine Below.setCell ?_ ?_ _; rotate_left; focus (first | omega | (simp <;> omega)))) | fail))⟩
  | true =>
    rw [hok] at hc3
    have hm2 : 0 ≤ m ∧ m ≤ 8192 := by
      have := hok
      simp only [okX, Bool.and_eq_true, decide_eq_true_eq] at this
      omega
    obtain ⟨n, rfl⟩ : ∃ n : Nat, m = n := ⟨m.toNat, by omega⟩
    have his' := fun W => unhide his W hm2.1 hm2.2
    replace his' := hide his'
    clear hm2 his
    cases ho : isOfB ⟨sa, sl⟩ (n : Int) with
    | false =>
      have hbad : RefOut true 5 x ⟨sa, sl⟩ ⟨0, []⟩ 1 := .inl ⟨by rw [hm]; simp [ho], rfl, rfl⟩
      rw [ho] at his'
      replace hbad := hide hbad; replace hok := hide hok; replace ho := hide ho; replace hm := hide hm
      clear hchk hset
      go_enter Try.func16, Try.ntmps16
      go_wp2_with (first
        | (go_at_call 23; rw [← unhide hw3]; refine (unhide hc3).mono ?_; rintro e w4 ⟨rfl, hb4⟩
           have R4 := (unhide R3).below hb4 (unhide R3).lt
           have S4 := (unhide S3).below hb4 (unhide S3).lt
           have X4 := (unhide X3).below hb4 (unhide X3).lt
           have B4 := bl_call (unhide B3) hb4
           have x0 := X4.cell 0; have x1 := X4.cell 1; have s0 := S4.cell 0; have s1 := S4.cell 1; have y4 := X4.lt; have y5 := S4.lt
           simp at x0 x1 s0 s1
           replace R4 := hide R4; replace B4 := hide B4; clear hb4 S4 X4)
        | (go_at_call 31; refine (unhide his' _).mono ?_; rintro e w5 ⟨rfl, hb5⟩
           have R5 := (unhide R4).below hb5 (unhide R4).lt
           have B5 := bl_call (unhide B4) hb5
           have q0 := R5.cell 0; have q1 := R5.cell 1; have f0 := R5.frozen 0; have f1 := R5.frozen 1; have y6 := R5.lt
           simp at q0 q1
           replace R5 := hide R5; replace B5 := hide B5; clear hb5)
        | fail)
      have B6 := unhide B5
      exact ret_xs2 rfl (w.heap.size + 1 + 1) (.int .i64 0) (.slice none 0 0) (.int .i64 1) rfl rfl (Blk.set2 (unhide R5)) rfl ⟨none, 0, ⟨0, []⟩, 1, rfl, unhide hbad, World.ownsRow_nil _ _ _ _, by (repeat (first | with_reducible exact Below.refl _ _ | with_reducible assumption | with_reducible refine Below.drew ?_ | with_reducible refine bl_alloc ?_ _ | with_reducible refine bl_call ?_ (by assumption) | (focus (with_reducible refine Below.setCell ?_ ?_ _; rotate_left; focus (first | omega | (simp <;> omega)))) | fail))⟩
    | true =>
      have hs := isOfB_iff.1 ho
      have hset' := fun W hW => unhide hset n W hW hok rfl hs
      have hgood : ∀ (y : Xs) (r : Bool), ((r = true ∧ (∀ t, inB ⟨sa, sl⟩ sl t = true → freeB x.free t = !true) ∧ y = ⟨n, runs (setB (freeB x.free) ⟨sa, sl⟩ true sl) n⟩) ∨ (r = false ∧ y = ⟨0, []⟩ ∧ ∃ t, inB ⟨sa, sl⟩ sl t = true ∧ freeB x.free t = true)) →
          RefOut true 5 x ⟨sa, sl⟩ y (if r then 0 else 5) := fun y r hr => by
        refine .inr ⟨hok, by rw [hm]; exact ho, ?_⟩
        rcases hr with ⟨rfl, a, b⟩ | ⟨rfl, a, b⟩
        · exact .inl ⟨rfl, a, by rw [hm]; exact b⟩
        · exact .inr ⟨rfl, a, b⟩
      rw [ho] at his'
      replace hset' := hide hset'; replace hgood := hide hgood; replace hok := hide hok; replace ho := hide ho; replace hm := hide hm; replace hs := hide hs
      clear hchk hset
      go_enter Try.func16, Try.ntmps16
      go_wp2_with (first
        | (go_at_call 23; rw [← unhide hw3]; refine (unhide hc3).mono ?_; rintro e w4 ⟨rfl, hb4⟩
           have R4 := (unhide R3).below hb4 (unhide R3).lt
           have S4 := (unhide S3).below hb4 (unhide S3).lt
           have X4 := (unhide X3).below hb4 (unhide X3).lt
           have B4 := bl_call (unhide B3) hb4
           have x0 := X4.cell 0; have x1 := X4.cell 1; have s0 := S4.cell 0; have s1 := S4.cell 1; have y4 := X4.lt; have y5 := S4.lt
           simp at x0 x1 s0 s1
           replace R4 := hide R4; replace B4 := hide B4; replace S4 := hide S4; replace X4 := hide X4; clear hb4)
        | (go_at_call 31; refine (unhide his' _).mono ?_; rintro e w5 ⟨rfl, hb5⟩
           have R5 := (unhide R4).below hb5 (unhide R4).lt
           have S5 := (unhide S4).below hb5 (unhide S4).lt
           have X5 := (unhide X4).below hb5 (unhide X4).lt
           have B5 := bl_call (unhide B4) hb5
           have v0 := X5.cell 0; have v1 := X5.cell 1; have t0 := S5.cell 0; have t1 := S5.cell 1; have y6 := X5.lt; have y7 := S5.lt
           simp at v0 v1 t0 t1
           replace R5 := hide R5; replace B5 := hide B5; clear hb5 S5 X5)
        | (go_at_call 32; refine (unhide hset' _ (unhide B5)).mono ?_; rintro e w6 ⟨A6, c6, y, r, rfl, hr, o6, hb6⟩
           have R6 := (unhide R5).below hb6 (unhide R5).lt
           have B6 := bl_call (unhide B5) hb6
           have q0 := R6.cell 0; have q1 := R6.cell 1; have f0 := R6.frozen 0; have f1 := R6.frozen 1; have y8 := R6.lt
           simp at q0 q1
           have hR := unhide hgood y r hr
           have h56 := (unhide B5).size
           replace o6 := hide (ownsRow_mono o6 h56); replace hR := hide hR; replace R6 := hide R6; replace B6 := hide B6; clear hb6 h56)
        | fail)
      · have hrf : r = false := by first | assumption | simp_all
        have B7 := unhide B6
        have hR' := unhide hR
        subst hrf
        obtain rfl : y = ⟨0, []⟩ := by
          rcases hr with ⟨h, _⟩ | ⟨_, h, _⟩
          · cases h
          · exact h
        exact ret_xs2 rfl (w.heap.size + 1 + 1) (.int .i64 0) (.slice none 0 0) (.int .i64 5) rfl rfl ((Blk.set2 (unhide R6)).alloc _) rfl ⟨none, 0, ⟨0, []⟩, 5, rfl, hR', World.ownsRow_nil _ _ _ _, by (repeat (first | with_reducible exact Below.refl _ _ | with_reducible assumption | with_reducible refine Below.drew ?_ | with_reducible refine bl_alloc ?_ _ | with_reducible refine bl_call ?_ (by assumption) | (focus (with_reducible refine Below.setCell ?_ ?_ _; rotate_left; focus (first | omega | (simp <;> omega)))) | fail))⟩
      · have hrt : r = true := by first | assumption | simp_all
        have B7 := unhide B6
        have hR' := unhide hR
        subst hrt
        exact ret_xs2 rfl (w.heap.size + 1 + 1) (.int .i64 y.size) (.slice A6 y.free.length c6) (.int .i64 0) rfl rfl ((Blk.set2 (unhide R6)).alloc _) rfl ⟨A6, c6, y, 0, rfl, hR', (own_far (own_far (unhide o6) (unhide R6) (by decide) 0 _) (Blk.set (unhide R6) 0 _) (by decide) 1 _).alloc _, by (repeat (first | with_reducible exact Below.refl _ _ | with_reducible assumption | with_reducible refine Below.drew ?_ | with_reducible refine bl_alloc ?_ _ | with_reducible refine bl_call ?_ (by assumption) | (focus (with_reducible refine Below.setCell ?_ ?_ _; rotate_left; focus (first | omega | (simp <;> omega)))) | fail))⟩
end Go.Proofs.Yteokimebfbnlkaa
