import Derived.Test.YtjjamplgecioaaaDoorG8
namespace Go.Proofs.YtjjamplgecioaaaDoor
open Go.RowKit

theorem eql_self (w : World) (s : St) : (binOp .eql 24 (stV s) (stV s)).run Tryd.prog w = .ok (.bool true) w := by rw [eql_st, sameS_self]

set_option maxHeartbeats 1000000 in
theorem mark_bad (v1 v2 : Value) (a b : List UInt8) (q : Nat) (w : World) (ht : Tab w) (h1 : Bs 0 w.heap.size w v1 a) (h2 : Bs 0 w.heap.size w v2 b) (hq : q < 256) (g1 : a.length ≤ 140737488355328) (g2 : b.length ≤ 140737488355328) (hl : 64 < a.length ∨ 64 < b.length) :
    Calls Tryd.prog 7 #[v1, v2, .int .u8 (q : Int)] w fun e w' => e = .returned (.bool true) ∧ Below w.heap.size w w' := by
  obtain ⟨i0, hi0, hz0, hz1, hz2⟩ := info_parts info5
  obtain ⟨r, hr⟩ : ∃ r, r = q % 40 := ⟨_, rfl⟩
  have m1 : (q : Int).tmod 40 = (r : Int) := by rw [Int.tmod_eq_emod_of_nonneg (by omega)]; omega
  have m2 : (q : Int) % 40 = (r : Int) := by omega
  have m4 : (r : Int) ≤ 40 := by omega
  have F0 : Fx w w [] := Fx.nil w
  have hlive := fun W (hb : Below w.heap.size w W) => live_any w W ht hb
  have hk1 := fun W (hb : Below w.heap.size w W) => key_any _ _ a b ((r : Int) + 1) w W ht h1 h2 hb
  have hk2 := fun W X Y (hb : Below w.heap.size w W) (g1 : Bs 0 W.heap.size W X a) (g2 : Bs 0 W.heap.size W Y b) => key_any X Y a b ((r : Int) + 1) W W (ht.below hb (Nat.le_refl _)) g1 g2 (Below.refl _ _)
  have hmk := fun S W (hb : Below w.heap.size w W) => mark_any S w W ht hb
  have s1 := fun W (hb : Below w.heap.size w W) => h1.at hb
  have s2 := fun W (hb : Below w.heap.size w W) => h2.at hb
  obtain ⟨A, c, rfl⟩ := h1.form
  obtain ⟨B, d, rfl⟩ := h2.form
  have ho1 := u8s_one a
  have ho2 := u8s_one b
  have hl1 : (a.map u8v).length = a.length * 1 := by simp
  have hl2 : (b.map u8v).length = b.length * 1 := by simp
  have b1 : 0 + a.length ≤ maxLen := by simp only [maxLen]; omega
  have b2 : (0 + a.length) * 1 ≤ 140737488355328 := by omega
  have b3 : 0 + b.length ≤ maxLen := by simp only [maxLen]; omega
  have b4 : (0 + b.length) * 1 ≤ 140737488355328 := by omega
  have hsr1 := fun W (hb : Below w.heap.size w W) => (s1 W hb).src.2
  have hsr2 := fun W (hb : Below w.heap.size w W) => (s2 W hb).src.2
  have E : keyE a b ((r : Int) + 1) = (zS, 3) := keyE_bad hl
  rw [E] at hk1 hk2
  have qz : ∀ W, (binOp .eql 24 (stV zS) (.agg #[.int .u32 0, .int .u32 0, .int .u32 0, .int .u32 0])).run Tryd.prog W = .ok (.bool true) W := fun W => eql_self W zS
  have qe : ∀ W, (Op.equalIn 10000 24 (.agg #[.int .u32 0, .int .u32 0, .int .u32 0, .int .u32 0]) (.agg #[.int .u32 0, .int .u32 0, .int .u32 0, .int .u32 0])).run Tryd.prog W = .ok true W := fun W => by
    have := equalIn_st W zS zS
    rw [sameS_self] at this
    exact this
  have hg24 := guard24
  clear E h1 h2 hr g1 g2
  replace hk1 := hide hk1; replace hk2 := hide hk2; replace hmk := hide hmk; replace s1 := hide s1; replace s2 := hide s2; replace ho1 := hide ho1; replace ho2 := hide ho2; replace hl1 := hide hl1; replace hl2 := hide hl2; replace b1 := hide b1; replace b2 := hide b2; replace b3 := hide b3; replace b4 := hide b4; replace hsr1 := hide hsr1; replace hsr2 := hide hsr2; replace F0 := hide F0; replace hlive := hide hlive
  have hn : ∃ n, n = a.length := ⟨_, rfl⟩
  have tok1 : True := trivial
  have tok2 : True := trivial
  have tk1 : True := trivial
  have tk2 : True := trivial
  go_enter Tryd.func7, Tryd.ntmps7
  go_upto_region 4 with (first
    | (go_at_call 8; refine (unhide hlive _ (unhide F0).bl).mono ?_; rintro e w1 ⟨rfl, hb1⟩; have F1 : Fx w w1 [] := (unhide F0).call hb1; replace F1 := hide F1; clear hb1)
    | (go_at_call 13; have _t := tok1; refine (unhide hk1 _ (unhide F1).bl).mono ?_; rintro e w2 ⟨rfl, hb2⟩; have F2 : Fx w w2 [] := (unhide F1).call hb2; have F3 := F2.newB w2.heap.size rfl (stC zS); replace F3 := hide F3; clear tok1 _t hb2 F2)
    | (at_builtin; have _t := tk1
       refine wpList_app _ rfl (.const (.slice none 0 0)) (.tmp 24) 25 rfl _ 5 i0 _ 1 1 Tryd.underlying25 hi0 hz0 hz1 hz2 rfl (Nat.succ_pos _) _ 0 [] rfl (World.ownsRow_nil _ _ _ _) A a.length c (a.map u8v) rfl (unhide hl1) (unhide hsr1 _ (unhide F3).bl) (unhide ho1) (unhide b1) (unhide b2) (Nat.le_refl _) ?_
       intro v3 w3 hown3 hg3
       have hb3 := (Below.refl _ _).grown hg3 (Nat.le_refl _) (by intro k hk; simp [Act.eval, Value.ownBlock] at hk)
       rw [Nat.zero_add, List.nil_append] at hown3
       have F4 := (unhide F3).call hb3
       have B3 : Bs 0 w3.heap.size w3 v3 a := (Bs.of_own hown3).mono (Nat.zero_le _) (Nat.le_refl _)
       replace B3 := hide B3; replace F4 := hide F4
       clear tk1 _t hg3 hown3 hb3)
    | (at_builtin; have _t := tk2
       refine wpList_app _ rfl (.const (.slice none 0 0)) (.tmp 26) 25 rfl _ 5 i0 _ 1 1 Tryd.underlying25 hi0 hz0 hz1 hz2 rfl (Nat.succ_pos _) _ 0 [] rfl (World.ownsRow_nil _ _ _ _) B b.length d (b.map u8v) rfl (unhide hl2) (unhide hsr2 _ (unhide F4).bl) (unhide ho2) (unhide b3) (unhide b4) (Nat.le_refl _) ?_
       intro v4 w4 hown4 hg4
       have hb4 : Below w3.heap.size w3 w4 := (Below.refl _ _).grown hg4 (Nat.le_refl _) (by intro k hk; simp [Act.eval, Value.ownBlock] at hk)
       rw [Nat.zero_add, List.nil_append] at hown4
       have F5 := (unhide F4).call hb4
       have B4 : Bs 0 w4.heap.size w4 v4 b := (Bs.of_own hown4).mono (Nat.zero_le _) (Nat.le_refl _)
       have B3' : Bs 0 w4.heap.size w4 v3 a := Bs.at (unhide B3) hb4
       replace B3' := hide B3'; replace B4 := hide B4; replace F5 := hide F5
       clear tk2 _t hg4 hown4 hb4)
    | (go_at_call 13; have _t := tok2; refine (unhide hk2 _ _ _ (unhide F5).bl (unhide B3') (unhide B4)).mono ?_; rintro e w5 ⟨rfl, hb5⟩; have F6 := (unhide F5).call hb5; have F7 := F6.newB w5.heap.size rfl (stC zS); replace F7 := hide F7; clear tok2 _t hb5 F6)
    | fail)
  generalize hW : World.alloc w5 _ = W7 at *
  clear hW
  generalize w2.heap.size = gk at *
  generalize w5.heap.size = gl at *
  have c0 : W7.cell? ⟨gk, 0, none⟩ = some (.int .u32 0) := ((unhide F7).get 0 rfl).cell 0
  have c1 : W7.cell? ⟨gk, 1, none⟩ = some (.int .u32 0) := ((unhide F7).get 0 rfl).cell 1
  have c2 : W7.cell? ⟨gk, 2, none⟩ = some (.int .u32 0) := ((unhide F7).get 0 rfl).cell 2
  have c3 : W7.cell? ⟨gk, 3, none⟩ = some (.int .u32 0) := ((unhide F7).get 0 rfl).cell 3
  clear hlive hk1 hk2 hmk s1 s2 ho1 ho2 hl1 hl2 b1 b2 b3 b4 hsr1 hsr2 F0 F1 F3 F4 F5 B3 B3' B4
  by_cases h : 64 < a.length
  · have k1 : (64 : Int) < (a.length : Int) := by omega
    clear hl h
    generalize a.length = n at *
    go_wp2
    go_ret
    exact ⟨rfl, (unhide F7).bl⟩
  · have k1 : ¬ (64 : Int) < (a.length : Int) := by omega
    have k2 : (64 : Int) < (b.length : Int) := by omega
    clear hl h
    generalize a.length = n at *
    generalize b.length = m at *
    go_wp2
    go_ret
    exact ⟨rfl, (unhide F7).bl⟩

set_option maxHeartbeats 1000000 in
theorem mark_good (v1 v2 : Value) (a b : List UInt8) (q : Nat) (w : World) (ht : Tab w) (h1 : Bs 0 w.heap.size w v1 a) (h2 : Bs 0 w.heap.size w v2 b) (hq : q < 256) (g1 : a.length ≤ 140737488355328) (g2 : b.length ≤ 140737488355328) (hl : a.length ≤ 64) (hm : b.length ≤ 64) :
    Calls Tryd.prog 7 #[v1, v2, .int .u8 (q : Int)] w fun e w' => e = .returned (.bool true) ∧ Below w.heap.size w w' := by
  obtain ⟨i0, hi0, hz0, hz1, hz2⟩ := info_parts info5
  obtain ⟨r, hr⟩ : ∃ r, r = q % 40 := ⟨_, rfl⟩
  have m1 : (q : Int).tmod 40 = (r : Int) := by rw [Int.tmod_eq_emod_of_nonneg (by omega)]; omega
  have m2 : (q : Int) % 40 = (r : Int) := by omega
  have m4 : (r : Int) ≤ 40 := by omega
  have F0 : Fx w w [] := Fx.nil w
  have hlive := fun W (hb : Below w.heap.size w W) => live_any w W ht hb
  have hk1 := fun W (hb : Below w.heap.size w W) => key_any _ _ a b ((r : Int) + 1) w W ht h1 h2 hb
  have hk2 := fun W X Y (hb : Below w.heap.size w W) (g1 : Bs 0 W.heap.size W X a) (g2 : Bs 0 W.heap.size W Y b) => key_any X Y a b ((r : Int) + 1) W W (ht.below hb (Nat.le_refl _)) g1 g2 (Below.refl _ _)
  have hmk := fun S W (hb : Below w.heap.size w W) => mark_any S w W ht hb
  have s1 := fun W (hb : Below w.heap.size w W) => h1.at hb
  have s2 := fun W (hb : Below w.heap.size w W) => h2.at hb
  obtain ⟨A, c, rfl⟩ := h1.form
  obtain ⟨B, d, rfl⟩ := h2.form
  have ho1 := u8s_one a
  have ho2 := u8s_one b
  have hl1 : (a.map u8v).length = a.length * 1 := by simp
  have hl2 : (b.map u8v).length = b.length * 1 := by simp
  have b1 : 0 + a.length ≤ maxLen := by simp only [maxLen]; omega
  have b2 : (0 + a.length) * 1 ≤ 140737488355328 := by omega
  have b3 : 0 + b.length ≤ maxLen := by simp only [maxLen]; omega
  have b4 : (0 + b.length) * 1 ≤ 140737488355328 := by omega
  have hsr1 := fun W (hb : Below w.heap.size w W) => (s1 W hb).src.2
  have hsr2 := fun W (hb : Below w.heap.size w W) => (s2 W hb).src.2
  have E : keyE a b ((r : Int) + 1) = (goF (r + 1) (startF a b) a, 0) := keyE_good hl hm (by omega) (by omega) (by omega)
  rw [E] at hk1 hk2
  generalize goF (r + 1) (startF a b) a = K at *
  have hmk := hmk K
  generalize markF K = M at *
  have hq24 := fun W => eql_self W K
  have hg24 := guard24
  clear E h1 h2 hr g1 g2
  replace hk1 := hide hk1; replace hk2 := hide hk2; replace hmk := hide hmk; replace s1 := hide s1; replace s2 := hide s2; replace ho1 := hide ho1; replace ho2 := hide ho2; replace hl1 := hide hl1; replace hl2 := hide hl2; replace b1 := hide b1; replace b2 := hide b2; replace b3 := hide b3; replace b4 := hide b4; replace hsr1 := hide hsr1; replace hsr2 := hide hsr2; replace F0 := hide F0; replace hlive := hide hlive
  have tok1 : True := trivial
  have tok2 : True := trivial
  have tk1 : True := trivial
  have tk2 : True := trivial
  go_enter Tryd.func7, Tryd.ntmps7
  go_upto_region 4 with (first
    | (go_at_call 8; refine (unhide hlive _ (unhide F0).bl).mono ?_; rintro e w1 ⟨rfl, hb1⟩; have F1 : Fx w w1 [] := (unhide F0).call hb1; replace F1 := hide F1; clear hb1)
    | (go_at_call 13; have _t := tok1; refine (unhide hk1 _ (unhide F1).bl).mono ?_; rintro e w2 ⟨rfl, hb2⟩; have F2 : Fx w w2 [] := (unhide F1).call hb2; have F3 := F2.newB w2.heap.size rfl (stC K); replace F3 := hide F3; clear tok1 _t hb2 F2)
    | (at_builtin; have _t := tk1
       refine wpList_app _ rfl (.const (.slice none 0 0)) (.tmp 24) 25 rfl _ 5 i0 _ 1 1 Tryd.underlying25 hi0 hz0 hz1 hz2 rfl (Nat.succ_pos _) _ 0 [] rfl (World.ownsRow_nil _ _ _ _) A a.length c (a.map u8v) rfl (unhide hl1) (unhide hsr1 _ (unhide F3).bl) (unhide ho1) (unhide b1) (unhide b2) (Nat.le_refl _) ?_
       intro v3 w3 hown3 hg3
       have hb3 := (Below.refl _ _).grown hg3 (Nat.le_refl _) (by intro k hk; simp [Act.eval, Value.ownBlock] at hk)
       rw [Nat.zero_add, List.nil_append] at hown3
       have F4 := (unhide F3).call hb3
       have B3 : Bs 0 w3.heap.size w3 v3 a := (Bs.of_own hown3).mono (Nat.zero_le _) (Nat.le_refl _)
       replace B3 := hide B3; replace F4 := hide F4
       clear tk1 _t hg3 hown3 hb3)
    | (at_builtin; have _t := tk2
       refine wpList_app _ rfl (.const (.slice none 0 0)) (.tmp 26) 25 rfl _ 5 i0 _ 1 1 Tryd.underlying25 hi0 hz0 hz1 hz2 rfl (Nat.succ_pos _) _ 0 [] rfl (World.ownsRow_nil _ _ _ _) B b.length d (b.map u8v) rfl (unhide hl2) (unhide hsr2 _ (unhide F4).bl) (unhide ho2) (unhide b3) (unhide b4) (Nat.le_refl _) ?_
       intro v4 w4 hown4 hg4
       have hb4 : Below w3.heap.size w3 w4 := (Below.refl _ _).grown hg4 (Nat.le_refl _) (by intro k hk; simp [Act.eval, Value.ownBlock] at hk)
       rw [Nat.zero_add, List.nil_append] at hown4
       have F5 := (unhide F4).call hb4
       have B4 : Bs 0 w4.heap.size w4 v4 b := (Bs.of_own hown4).mono (Nat.zero_le _) (Nat.le_refl _)
       have B3' : Bs 0 w4.heap.size w4 v3 a := Bs.at (unhide B3) hb4
       replace B3' := hide B3'; replace B4 := hide B4; replace F5 := hide F5
       clear tk2 _t hg4 hown4 hb4)
    | (go_at_call 13; have _t := tok2; refine (unhide hk2 _ _ _ (unhide F5).bl (unhide B3') (unhide B4)).mono ?_; rintro e w5 ⟨rfl, hb5⟩; have F6 := (unhide F5).call hb5; have F7 := F6.newB w5.heap.size rfl (stC K); replace F7 := hide F7; clear tok2 _t hb5 F6)
    | fail)
  generalize hW : World.alloc w5 _ = W7 at *
  clear hW
  have F8 : Fx w W7 [(w2.heap.size, stC K), (w5.heap.size, stC K)] := unhide F7
  generalize w2.heap.size = gk at *
  generalize w5.heap.size = gl at *
  replace F8 := hide F8
  clear hlive hk1 hk2 s1 s2 ho1 ho2 hl1 hl2 b1 b2 b3 b4 hsr1 hsr2 F0 F1 F3 F4 F5 B3 B3' B4 F7 hl hm
  have c0 : W7.cell? ⟨gk, 0, none⟩ = some (u32v K.a) := ((unhide F8).get 0 rfl).cell 0
  have c1 : W7.cell? ⟨gk, 1, none⟩ = some (u32v K.b) := ((unhide F8).get 0 rfl).cell 1
  have c2 : W7.cell? ⟨gk, 2, none⟩ = some (u32v K.c) := ((unhide F8).get 0 rfl).cell 2
  have c3 : W7.cell? ⟨gk, 3, none⟩ = some (u32v K.d) := ((unhide F8).get 0 rfl).cell 3
  have d0 : W7.cell? ⟨gl, 0, none⟩ = some (u32v K.a) := ((unhide F8).get 1 rfl).cell 0
  have d1 : W7.cell? ⟨gl, 1, none⟩ = some (u32v K.b) := ((unhide F8).get 1 rfl).cell 1
  have d2 : W7.cell? ⟨gl, 2, none⟩ = some (u32v K.c) := ((unhide F8).get 1 rfl).cell 2
  have d3 : W7.cell? ⟨gl, 3, none⟩ = some (u32v K.d) := ((unhide F8).get 1 rfl).cell 3
  have tm1 : True := trivial
  have tm2 : True := trivial
  go_upto_region 6 with (fail)
  go_region_held3 (fun W => W.cell? ⟨gk, 0, none⟩ = some (u32v K.a) ∧ W.cell? ⟨gk, 1, none⟩ = some (u32v K.b) ∧ W.cell? ⟨gk, 2, none⟩ = some (u32v K.c) ∧ W.cell? ⟨gk, 3, none⟩ = some (u32v K.d) ∧ W.cell? ⟨gl, 0, none⟩ = some (u32v K.a) ∧ W.cell? ⟨gl, 1, none⟩ = some (u32v K.b) ∧ W.cell? ⟨gl, 2, none⟩ = some (u32v K.c) ∧ W.cell? ⟨gl, 3, none⟩ = some (u32v K.d)) (first | exact ⟨by with_reducible assumption, by with_reducible assumption, by with_reducible assumption, by with_reducible assumption, by with_reducible assumption, by with_reducible assumption, by with_reducible assumption, by with_reducible assumption⟩ | exact ⟨by go_simp, by go_simp, by go_simp, by go_simp, by go_simp, by go_simp, by go_simp, by go_simp⟩) (first
    | (go_at_call 15; have _t := tm1; refine (unhide hmk _ ((unhide F8).drew).bl).mono ?_; rintro e x1 ⟨rfl, hb⟩
       have Y1 : Fx w x1 [(gk, stC K), (gl, stC K)] := ((unhide F8).drew).call hb
       have ca10 : x1.cell? ⟨gk, 0, none⟩ = some (u32v K.a) := ((Y1).get 0 rfl).cell 0
       have ca11 : x1.cell? ⟨gk, 1, none⟩ = some (u32v K.b) := ((Y1).get 0 rfl).cell 1
       have ca12 : x1.cell? ⟨gk, 2, none⟩ = some (u32v K.c) := ((Y1).get 0 rfl).cell 2
       have ca13 : x1.cell? ⟨gk, 3, none⟩ = some (u32v K.d) := ((Y1).get 0 rfl).cell 3
       have cb10 : x1.cell? ⟨gl, 0, none⟩ = some (u32v K.a) := ((Y1).get 1 rfl).cell 0
       have cb11 : x1.cell? ⟨gl, 1, none⟩ = some (u32v K.b) := ((Y1).get 1 rfl).cell 1
       have cb12 : x1.cell? ⟨gl, 2, none⟩ = some (u32v K.c) := ((Y1).get 1 rfl).cell 2
       have cb13 : x1.cell? ⟨gl, 3, none⟩ = some (u32v K.d) := ((Y1).get 1 rfl).cell 3
       replace Y1 := hide Y1; clear hb tm1 _t)
    | (go_at_call 15; have _t := tm2; refine (unhide hmk _ (unhide Y1).bl).mono ?_; rintro e x2 ⟨rfl, hb⟩
       have Y2 : Fx w x2 [(gk, stC K), (gl, stC K)] := (unhide Y1).call hb
       have ca20 : x2.cell? ⟨gk, 0, none⟩ = some (u32v K.a) := ((Y2).get 0 rfl).cell 0
       have ca21 : x2.cell? ⟨gk, 1, none⟩ = some (u32v K.b) := ((Y2).get 0 rfl).cell 1
       have ca22 : x2.cell? ⟨gk, 2, none⟩ = some (u32v K.c) := ((Y2).get 0 rfl).cell 2
       have ca23 : x2.cell? ⟨gk, 3, none⟩ = some (u32v K.d) := ((Y2).get 0 rfl).cell 3
       have cb20 : x2.cell? ⟨gl, 0, none⟩ = some (u32v K.a) := ((Y2).get 1 rfl).cell 0
       have cb21 : x2.cell? ⟨gl, 1, none⟩ = some (u32v K.b) := ((Y2).get 1 rfl).cell 1
       have cb22 : x2.cell? ⟨gl, 2, none⟩ = some (u32v K.c) := ((Y2).get 1 rfl).cell 2
       have cb23 : x2.cell? ⟨gl, 3, none⟩ = some (u32v K.d) := ((Y2).get 1 rfl).cell 3
       replace Y2 := hide Y2; clear hb tm2 _t))
  all_goals go_wp2_with (fail)
  all_goals go_ret
  all_goals exact ⟨rfl, (unhide Y2).bl⟩
theorem mark_law (v1 v2 : Value) (a b : List UInt8) (q : UInt8) (w : World) (ht : Tab w) (h1 : Bs 0 w.heap.size w v1 a) (h2 : Bs 0 w.heap.size w v2 b) (g1 : a.length ≤ 140737488355328) (g2 : b.length ≤ 140737488355328) :
    Calls Tryd.prog 7 #[v1, v2, u8v q] w fun e w' => e = .returned (.bool true) ∧ Below w.heap.size w w' := by
  have hq := q.toNat_lt
  by_cases h : 64 < a.length ∨ 64 < b.length
  · exact mark_bad v1 v2 a b q.toNat w ht h1 h2 hq g1 g2 h
  · exact mark_good v1 v2 a b q.toNat w ht h1 h2 hq g1 g2 (by omega) (by omega)
end Go.Proofs.YtjjamplgecioaaaDoor
