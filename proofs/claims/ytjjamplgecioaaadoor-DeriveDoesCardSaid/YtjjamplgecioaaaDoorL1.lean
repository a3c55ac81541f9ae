import Derived.Test.YtjjamplgecioaaaDoorL5
namespace Go.Proofs.YtjjamplgecioaaaDoor
open Go.RowKit
set_option maxRecDepth 100000

set_option maxHeartbeats 1000000 in
theorem does_gate_r (s : St) (v1 v2 : Value) (a b : List UInt8) (z : Int) (w : World) (ht : Tab w) (h1 : Bs 0 w.heap.size w v1 a) (h2 : Bs 0 w.heap.size w v2 b) (h1z : 60 < z) (h2z : z ≤ 4096) :
    Calls Tryd.prog 3 #[stV s, v1, v2, .int .i64 z] w fun e w' => e = .returned (.bool true) ∧ Below w.heap.size w w' := by
  have F0 : Fx w (w.alloc (.cells (stC s) 24)) [(w.heap.size, stC s)] := (Fx.nil w).newB _ rfl _
  have hlive := fun W (hb : Below w.heap.size w W) => live_any w W ht hb
  obtain ⟨A, c, rfl⟩ := h1.form
  obtain ⟨B, d, rfl⟩ := h2.form
  clear h1 h2 ht
  generalize a.length = n at *
  generalize b.length = m at *
  replace F0 := hide F0; replace hlive := hide hlive
  go_enter Tryd.func3, Tryd.ntmps3
  go_wp2_with (first
    | (go_at_call 8; refine (unhide hlive _ (unhide F0).bl).mono ?_; rintro e w1 ⟨rfl, hb0⟩; have F1 : Fx w w1 [(w.heap.size, stC s)] := (unhide F0).call hb0; replace F1 := hide F1; clear hb0)
    | fail)
  go_ret
  exact ⟨rfl, (unhide F1).bl⟩

set_option maxHeartbeats 1000000 in
theorem does_gate_w1 (s : St) (v1 v2 : Value) (a b : List UInt8) (z : Int) (w : World) (ht : Tab w) (h1 : Bs 0 w.heap.size w v1 a) (h2 : Bs 0 w.heap.size w v2 b) (h1z : z ≤ 60) (hg : 100 < a.length ∨ 100 < b.length) :
    Calls Tryd.prog 3 #[stV s, v1, v2, .int .i64 z] w fun e w' => e = .returned (.bool true) ∧ Below w.heap.size w w' := by
  have F0 : Fx w (w.alloc (.cells (stC s) 24)) [(w.heap.size, stC s)] := (Fx.nil w).newB _ rfl _
  have hlive := fun W (hb : Below w.heap.size w W) => live_any w W ht hb
  have h1z' : ¬ 60 < z := by omega
  obtain ⟨A, c, rfl⟩ := h1.form
  obtain ⟨B, d, rfl⟩ := h2.form
  clear h1 h2 ht
  generalize a.length = n at *
  generalize b.length = m at *
  replace F0 := hide F0; replace hlive := hide hlive
  by_cases h : 100 < n
  · have k1 : (100 : Int) < (n : Int) := by omega
    clear hg h
    go_enter Tryd.func3, Tryd.ntmps3
    go_wp2_with (first
      | (go_at_call 8; refine (unhide hlive _ (unhide F0).bl).mono ?_; rintro e w1 ⟨rfl, hb0⟩; have F1 : Fx w w1 [(w.heap.size, stC s)] := (unhide F0).call hb0; replace F1 := hide F1; clear hb0)
      | fail)
    go_ret
    exact ⟨rfl, (unhide F1).bl⟩
  · have k1 : ¬ (100 : Int) < (n : Int) := by omega
    have k2 : (100 : Int) < (m : Int) := by omega
    clear hg h
    go_enter Tryd.func3, Tryd.ntmps3
    go_wp2_with (first
      | (go_at_call 8; refine (unhide hlive _ (unhide F0).bl).mono ?_; rintro e w1 ⟨rfl, hb0⟩; have F1 : Fx w w1 [(w.heap.size, stC s)] := (unhide F0).call hb0; replace F1 := hide F1; clear hb0)
      | fail)
    go_ret
    exact ⟨rfl, (unhide F1).bl⟩

set_option maxHeartbeats 1000000 in
theorem does_gate_w2 (s : St) (v1 v2 : Value) (a b : List UInt8) (z : Int) (w : World) (ht : Tab w) (h1 : Bs 0 w.heap.size w v1 a) (h2 : Bs 0 w.heap.size w v2 b) (h1z : 60 < z) (h2z : 4096 < z) (hg : 100 < a.length ∨ 100 < b.length) :
    Calls Tryd.prog 3 #[stV s, v1, v2, .int .i64 z] w fun e w' => e = .returned (.bool true) ∧ Below w.heap.size w w' := by
  have F0 : Fx w (w.alloc (.cells (stC s) 24)) [(w.heap.size, stC s)] := (Fx.nil w).newB _ rfl _
  have hlive := fun W (hb : Below w.heap.size w W) => live_any w W ht hb
  have h2z' : ¬ z ≤ 4096 := by omega
  obtain ⟨A, c, rfl⟩ := h1.form
  obtain ⟨B, d, rfl⟩ := h2.form
  clear h1 h2 ht
  generalize a.length = n at *
  generalize b.length = m at *
  replace F0 := hide F0; replace hlive := hide hlive
  by_cases h : 100 < n
  · have k1 : (100 : Int) < (n : Int) := by omega
    clear hg h
    go_enter Tryd.func3, Tryd.ntmps3
    go_wp2_with (first
      | (go_at_call 8; refine (unhide hlive _ (unhide F0).bl).mono ?_; rintro e w1 ⟨rfl, hb0⟩; have F1 : Fx w w1 [(w.heap.size, stC s)] := (unhide F0).call hb0; replace F1 := hide F1; clear hb0)
      | fail)
    go_ret
    exact ⟨rfl, (unhide F1).bl⟩
  · have k1 : ¬ (100 : Int) < (n : Int) := by omega
    have k2 : (100 : Int) < (m : Int) := by omega
    clear hg h
    go_enter Tryd.func3, Tryd.ntmps3
    go_wp2_with (first
      | (go_at_call 8; refine (unhide hlive _ (unhide F0).bl).mono ?_; rintro e w1 ⟨rfl, hb0⟩; have F1 : Fx w w1 [(w.heap.size, stC s)] := (unhide F0).call hb0; replace F1 := hide F1; clear hb0)
      | fail)
    go_ret
    exact ⟨rfl, (unhide F1).bl⟩

set_option maxHeartbeats 4000000 in
theorem does_m1 (s : St) (v1 v2 : Value) (a b : List UInt8) (z : Int) (w : World) (ht : Tab w) (h1 : Bs 0 w.heap.size w v1 a) (h2 : Bs 0 w.heap.size w v2 b) (h1z : z ≤ 60) (hl : a.length ≤ 100) (hm : b.length ≤ 100) :
    Calls Tryd.prog 3 #[stV s, v1, v2, .int .i64 z] w fun e w' => e = .returned (.bool true) ∧ Below w.heap.size w w' := by
  have h1z' : ¬ 60 < z := by omega
  have F0 : Fx w (w.alloc (.cells (stC s) 24)) [(w.heap.size, stC s)] := (Fx.nil w).newB _ rfl _
  have hlive := fun W (hb : Below w.heap.size w W) => live_any w W ht hb
  have hk1 := fun W (hb : Below w.heap.size w W) => start_any _ _ a b w W ht h1 h2 hb
  have hk2 := fun W (hb : Below w.heap.size w W) => startR_any _ _ a b w W h1 h2 hb
  have hk3 := fun W (hb : Below w.heap.size w W) => go_any s _ a z w W ht h1 hb
  have hk4 := fun W (hb : Below w.heap.size w W) => goR_any s _ a z w W h1 hb
  have hk5 := fun W (hb : Below w.heap.size w W) => key_any _ _ a b z w W ht h1 h2 hb
  have hk6 := fun W (hb : Below w.heap.size w W) => keyR_any _ _ a b z w W h1 h2 hb
  have hk7 := fun W (hb : Below w.heap.size w W) => mark_any s w W ht hb
  have hk8 := fun W (_ : Below w.heap.size w W) => markR_any s W
  have cv1 := fun W (hb : Below w.heap.size w W) => (h1.at hb).convert
  have cv2 := fun W (hb : Below w.heap.size w W) => (h2.at hb).convert
  generalize (startE a b).1 = P at *
  generalize (startE a b).2 = e1 at *
  generalize (goE s a z).1 = Q at *
  generalize (goE s a z).2 = e2 at *
  generalize (keyE a b z).1 = K at *
  generalize (keyE a b z).2 = e3 at *
  generalize markF s = M at *
  generalize strU a = SA at *
  generalize strU b = SB at *
  have qP : ∀ W, (Op.equalIn 10000 24 (stV P) (stV P)).run Tryd.prog W = .ok true W := fun W => by
    have := equalIn_st W P P
    rw [sameS_self] at this
    exact this
  have qQ : ∀ W, (Op.equalIn 10000 24 (stV Q) (stV Q)).run Tryd.prog W = .ok true W := fun W => by
    have := equalIn_st W Q Q
    rw [sameS_self] at this
    exact this
  have qK : ∀ W, (Op.equalIn 10000 24 (stV K) (stV K)).run Tryd.prog W = .ok true W := fun W => by
    have := equalIn_st W K K
    rw [sameS_self] at this
    exact this
  have hg24 := guard24
  have k1 : ¬ (100 : Int) < (a.length : Int) := by omega
  have k2 : ¬ (100 : Int) < (b.length : Int) := by omega
  obtain ⟨A, c, rfl⟩ := h1.form
  obtain ⟨B, d, rfl⟩ := h2.form
  clear h1 h2 ht hl hm
  generalize a.length = n at *
  generalize b.length = m at *
  replace F0 := hide F0; replace hlive := hide hlive; replace hk1 := hide hk1; replace hk2 := hide hk2; replace hk3 := hide hk3; replace hk4 := hide hk4; replace hk5 := hide hk5; replace hk6 := hide hk6; replace hk7 := hide hk7; replace hk8 := hide hk8; replace cv1 := hide cv1; replace cv2 := hide cv2
  have tok1 : True := trivial
  have tok2 : True := trivial
  have tok3 : True := trivial
  have tok4 : True := trivial
  have tok5 : True := trivial
  have tok6 : True := trivial
  have tok7 : True := trivial
  have tok8 : True := trivial
  go_enter Tryd.func3, Tryd.ntmps3
  go_upto_region 1 with (fail)
  generalize hW : World.alloc w _ = W at *
  clear hW
  go_upto_region 4 with (first
    | (go_at_call 8; refine (unhide hlive _ (unhide F0).bl).mono ?_; rintro e w1 ⟨rfl, hb0⟩; have F1 : Fx w w1 [(w.heap.size, stC s)] := (unhide F0).call hb0; replace F1 := hide F1; clear hb0)
    | fail)
  have x1 : (convert 25 9 (.slice A n c)).run Tryd.prog w1 = .ok (.string SA) w1 := unhide cv1 _ (unhide F1).bl
  have x2 : (convert 25 9 (.slice B m d)).run Tryd.prog w1 = .ok (.string SB) w1 := unhide cv2 _ (unhide F1).bl
  go_upto_region 12 with (first
    | (go_at_call 9; have _t := tok1; refine (unhide hk1 _ (unhide F1).bl).mono ?_; rintro e w2 ⟨rfl, hb0⟩; have F_ : Fx w w2 [(w.heap.size, stC s)] := (unhide F1).call hb0; have F2 : Fx w _ [(w.heap.size, stC s), (w2.heap.size, stC P)] := F_.newB w2.heap.size rfl (stC P); replace F2 := hide F2; clear hb0 F_ tok1 _t)
    | (go_at_call 10; have _t := tok2; refine (unhide hk2 _ (unhide F2).bl).mono ?_; rintro e w3 ⟨rfl, hb0⟩; have F_ : Fx w w3 [(w.heap.size, stC s), (w2.heap.size, stC P)] := (unhide F2).call hb0; have F3 : Fx w _ [(w.heap.size, stC s), (w2.heap.size, stC P), (w3.heap.size, stC P)] := F_.newB w3.heap.size rfl (stC P); replace F3 := hide F3; clear hb0 F_ tok2 _t)
    | (refine wpList_load_row rfl 24 (.tmp 4) rfl w.heap.size rfl 24 (stC s) (0, 0) _ ((unhide F3).get 0 rfl) Tryd.underlying24 rfl size24 ?_)
    | (go_at_call 11; have _t := tok3; refine (unhide hk3 _ (unhide F3).bl).mono ?_; rintro e w4 ⟨rfl, hb0⟩; have F_ : Fx w w4 [(w.heap.size, stC s), (w2.heap.size, stC P), (w3.heap.size, stC P)] := (unhide F3).call hb0; have F4 : Fx w _ [(w.heap.size, stC s), (w2.heap.size, stC P), (w3.heap.size, stC P), (w4.heap.size, stC Q)] := F_.newB w4.heap.size rfl (stC Q); replace F4 := hide F4; clear hb0 F_ tok3 _t)
    | (refine wpList_load_row rfl 24 (.tmp 4) rfl w.heap.size rfl 24 (stC s) (0, 0) _ ((unhide F4).get 0 rfl) Tryd.underlying24 rfl size24 ?_)
    | (go_at_call 12; have _t := tok4; refine (unhide hk4 _ (unhide F4).bl).mono ?_; rintro e w5 ⟨rfl, hb0⟩; have F_ : Fx w w5 [(w.heap.size, stC s), (w2.heap.size, stC P), (w3.heap.size, stC P), (w4.heap.size, stC Q)] := (unhide F4).call hb0; have F5 : Fx w _ [(w.heap.size, stC s), (w2.heap.size, stC P), (w3.heap.size, stC P), (w4.heap.size, stC Q), (w5.heap.size, stC Q)] := F_.newB w5.heap.size rfl (stC Q); replace F5 := hide F5; clear hb0 F_ tok4 _t)
    | (go_at_call 13; have _t := tok5; refine (unhide hk5 _ (unhide F5).bl).mono ?_; rintro e w6 ⟨rfl, hb0⟩; have F_ : Fx w w6 [(w.heap.size, stC s), (w2.heap.size, stC P), (w3.heap.size, stC P), (w4.heap.size, stC Q), (w5.heap.size, stC Q)] := (unhide F5).call hb0; have F6 : Fx w _ [(w.heap.size, stC s), (w2.heap.size, stC P), (w3.heap.size, stC P), (w4.heap.size, stC Q), (w5.heap.size, stC Q), (w6.heap.size, stC K)] := F_.newB w6.heap.size rfl (stC K); replace F6 := hide F6; clear hb0 F_ tok5 _t)
    | (go_at_call 14; have _t := tok6; refine (unhide hk6 _ (unhide F6).bl).mono ?_; rintro e w7 ⟨rfl, hb0⟩; have F_ : Fx w w7 [(w.heap.size, stC s), (w2.heap.size, stC P), (w3.heap.size, stC P), (w4.heap.size, stC Q), (w5.heap.size, stC Q), (w6.heap.size, stC K)] := (unhide F6).call hb0; have F7 : Fx w _ [(w.heap.size, stC s), (w2.heap.size, stC P), (w3.heap.size, stC P), (w4.heap.size, stC Q), (w5.heap.size, stC Q), (w6.heap.size, stC K), (w7.heap.size, stC K)] := F_.newB w7.heap.size rfl (stC K); replace F7 := hide F7; clear hb0 F_ tok6 _t)
    | fail)
  generalize hW7 : World.alloc w7 _ = V at *
  clear hW7
  have X0 : Fx w V [(w.heap.size, stC s), (w2.heap.size, stC P), (w3.heap.size, stC P), (w4.heap.size, stC Q), (w5.heap.size, stC Q), (w6.heap.size, stC K), (w7.heap.size, stC K)] := unhide F7
  clear F7 F6 F5 F4 F3 F2 F1 F0 hk1 hk2 hk3 hk4 hk5 hk6 hlive x1 x2 W
  generalize w2.heap.size = g2 at *
  generalize w3.heap.size = g3 at *
  generalize w4.heap.size = g4 at *
  generalize w5.heap.size = g5 at *
  generalize w6.heap.size = g6 at *
  generalize w7.heap.size = g7 at *
  have v0 : Blk V (w.heap.size) 24 (stC s) := X0.get 0 rfl
  have v1 : Blk V (g2) 24 (stC P) := X0.get 1 rfl
  have v2 : Blk V (g3) 24 (stC P) := X0.get 2 rfl
  have v3 : Blk V (g4) 24 (stC Q) := X0.get 3 rfl
  have v4 : Blk V (g5) 24 (stC Q) := X0.get 4 rfl
  have v5 : Blk V (g6) 24 (stC K) := X0.get 5 rfl
  have v6 : Blk V (g7) 24 (stC K) := X0.get 6 rfl
  have hc0_0 : ∀ W, Blk W (w.heap.size) 24 (stC s) → W.cell? ⟨w.heap.size, 0, none⟩ = some (u32v s.a) := fun W h => h.cell 0
  have hc0_1 : ∀ W, Blk W (w.heap.size) 24 (stC s) → W.cell? ⟨w.heap.size, 1, none⟩ = some (u32v s.b) := fun W h => h.cell 1
  have hc0_2 : ∀ W, Blk W (w.heap.size) 24 (stC s) → W.cell? ⟨w.heap.size, 2, none⟩ = some (u32v s.c) := fun W h => h.cell 2
  have hc0_3 : ∀ W, Blk W (w.heap.size) 24 (stC s) → W.cell? ⟨w.heap.size, 3, none⟩ = some (u32v s.d) := fun W h => h.cell 3
  have hc1_0 : ∀ W, Blk W (g2) 24 (stC P) → W.cell? ⟨g2, 0, none⟩ = some (u32v P.a) := fun W h => h.cell 0
  have hc1_1 : ∀ W, Blk W (g2) 24 (stC P) → W.cell? ⟨g2, 1, none⟩ = some (u32v P.b) := fun W h => h.cell 1
  have hc1_2 : ∀ W, Blk W (g2) 24 (stC P) → W.cell? ⟨g2, 2, none⟩ = some (u32v P.c) := fun W h => h.cell 2
  have hc1_3 : ∀ W, Blk W (g2) 24 (stC P) → W.cell? ⟨g2, 3, none⟩ = some (u32v P.d) := fun W h => h.cell 3
  have hc2_0 : ∀ W, Blk W (g3) 24 (stC P) → W.cell? ⟨g3, 0, none⟩ = some (u32v P.a) := fun W h => h.cell 0
  have hc2_1 : ∀ W, Blk W (g3) 24 (stC P) → W.cell? ⟨g3, 1, none⟩ = some (u32v P.b) := fun W h => h.cell 1
  have hc2_2 : ∀ W, Blk W (g3) 24 (stC P) → W.cell? ⟨g3, 2, none⟩ = some (u32v P.c) := fun W h => h.cell 2
  have hc2_3 : ∀ W, Blk W (g3) 24 (stC P) → W.cell? ⟨g3, 3, none⟩ = some (u32v P.d) := fun W h => h.cell 3
  have hc3_0 : ∀ W, Blk W (g4) 24 (stC Q) → W.cell? ⟨g4, 0, none⟩ = some (u32v Q.a) := fun W h => h.cell 0
  have hc3_1 : ∀ W, Blk W (g4) 24 (stC Q) → W.cell? ⟨g4, 1, none⟩ = some (u32v Q.b) := fun W h => h.cell 1
  have hc3_2 : ∀ W, Blk W (g4) 24 (stC Q) → W.cell? ⟨g4, 2, none⟩ = some (u32v Q.c) := fun W h => h.cell 2
  have hc3_3 : ∀ W, Blk W (g4) 24 (stC Q) → W.cell? ⟨g4, 3, none⟩ = some (u32v Q.d) := fun W h => h.cell 3
  have hc4_0 : ∀ W, Blk W (g5) 24 (stC Q) → W.cell? ⟨g5, 0, none⟩ = some (u32v Q.a) := fun W h => h.cell 0
  have hc4_1 : ∀ W, Blk W (g5) 24 (stC Q) → W.cell? ⟨g5, 1, none⟩ = some (u32v Q.b) := fun W h => h.cell 1
  have hc4_2 : ∀ W, Blk W (g5) 24 (stC Q) → W.cell? ⟨g5, 2, none⟩ = some (u32v Q.c) := fun W h => h.cell 2
  have hc4_3 : ∀ W, Blk W (g5) 24 (stC Q) → W.cell? ⟨g5, 3, none⟩ = some (u32v Q.d) := fun W h => h.cell 3
  have hc5_0 : ∀ W, Blk W (g6) 24 (stC K) → W.cell? ⟨g6, 0, none⟩ = some (u32v K.a) := fun W h => h.cell 0
  have hc5_1 : ∀ W, Blk W (g6) 24 (stC K) → W.cell? ⟨g6, 1, none⟩ = some (u32v K.b) := fun W h => h.cell 1
  have hc5_2 : ∀ W, Blk W (g6) 24 (stC K) → W.cell? ⟨g6, 2, none⟩ = some (u32v K.c) := fun W h => h.cell 2
  have hc5_3 : ∀ W, Blk W (g6) 24 (stC K) → W.cell? ⟨g6, 3, none⟩ = some (u32v K.d) := fun W h => h.cell 3
  have hc6_0 : ∀ W, Blk W (g7) 24 (stC K) → W.cell? ⟨g7, 0, none⟩ = some (u32v K.a) := fun W h => h.cell 0
  have hc6_1 : ∀ W, Blk W (g7) 24 (stC K) → W.cell? ⟨g7, 1, none⟩ = some (u32v K.b) := fun W h => h.cell 1
  have hc6_2 : ∀ W, Blk W (g7) 24 (stC K) → W.cell? ⟨g7, 2, none⟩ = some (u32v K.c) := fun W h => h.cell 2
  have hc6_3 : ∀ W, Blk W (g7) 24 (stC K) → W.cell? ⟨g7, 3, none⟩ = some (u32v K.d) := fun W h => h.cell 3
  have z0a : (convert 25 9 (.slice A n c)).run Tryd.prog V.drew = .ok (.string SA) V.drew := unhide cv1 _ X0.drew.bl
  have z0b : (convert 25 9 (.slice B m d)).run Tryd.prog V.drew = .ok (.string SB) V.drew := unhide cv2 _ X0.drew.bl
  replace X0 := hide X0
  go_region_held3 (fun W => Blk W (w.heap.size) 24 (stC s) ∧ Blk W (g2) 24 (stC P) ∧ Blk W (g3) 24 (stC P) ∧ Blk W (g4) 24 (stC Q) ∧ Blk W (g5) 24 (stC Q) ∧ Blk W (g6) 24 (stC K) ∧ Blk W (g7) 24 (stC K) ∧ (convert 25 9 (.slice A n c)).run Tryd.prog W = .ok (.string SA) W ∧ (convert 25 9 (.slice B m d)).run Tryd.prog W = .ok (.string SB) W) (first | exact ⟨v0.drew, v1.drew, v2.drew, v3.drew, v4.drew, v5.drew, v6.drew, z0a, z0b⟩ | exact ⟨by with_reducible assumption, by with_reducible assumption, by with_reducible assumption, by with_reducible assumption, by with_reducible assumption, by with_reducible assumption, by with_reducible assumption, by with_reducible assumption, by with_reducible assumption⟩) (first
    | (go_at_call 15; have _t := tok7; refine (unhide hk7 _ ((unhide X0).drew).bl).mono ?_; rintro e y1 ⟨rfl, hb⟩
       have Y1 : Fx w y1 [(w.heap.size, stC s), (g2, stC P), (g3, stC P), (g4, stC Q), (g5, stC Q), (g6, stC K), (g7, stC K)] := ((unhide X0).drew).call hb
       have a0 : Blk y1 (w.heap.size) 24 (stC s) := Y1.get 0 rfl
       have a1 : Blk y1 (g2) 24 (stC P) := Y1.get 1 rfl
       have a2 : Blk y1 (g3) 24 (stC P) := Y1.get 2 rfl
       have a3 : Blk y1 (g4) 24 (stC Q) := Y1.get 3 rfl
       have a4 : Blk y1 (g5) 24 (stC Q) := Y1.get 4 rfl
       have a5 : Blk y1 (g6) 24 (stC K) := Y1.get 5 rfl
       have a6 : Blk y1 (g7) 24 (stC K) := Y1.get 6 rfl
       have z1a : (convert 25 9 (.slice A n c)).run Tryd.prog y1 = .ok (.string SA) y1 := unhide cv1 _ Y1.bl
       have z1b : (convert 25 9 (.slice B m d)).run Tryd.prog y1 = .ok (.string SB) y1 := unhide cv2 _ Y1.bl
       replace Y1 := hide Y1; clear hb tok7 _t v0 v1 v2 v3 v4 v5 v6)
    | (go_at_call 16; have _t := tok8; refine (unhide hk8 _ (unhide Y1).bl).mono ?_; rintro e y2 ⟨rfl, hb⟩
       have Y2 : Fx w y2 [(w.heap.size, stC s), (g2, stC P), (g3, stC P), (g4, stC Q), (g5, stC Q), (g6, stC K), (g7, stC K)] := (unhide Y1).call hb
       have b0 : Blk y2 (w.heap.size) 24 (stC s) := Y2.get 0 rfl
       have b1 : Blk y2 (g2) 24 (stC P) := Y2.get 1 rfl
       have b2 : Blk y2 (g3) 24 (stC P) := Y2.get 2 rfl
       have b3 : Blk y2 (g4) 24 (stC Q) := Y2.get 3 rfl
       have b4 : Blk y2 (g5) 24 (stC Q) := Y2.get 4 rfl
       have b5 : Blk y2 (g6) 24 (stC K) := Y2.get 5 rfl
       have b6 : Blk y2 (g7) 24 (stC K) := Y2.get 6 rfl
       have z2a : (convert 25 9 (.slice A n c)).run Tryd.prog y2 = .ok (.string SA) y2 := unhide cv1 _ Y2.bl
       have z2b : (convert 25 9 (.slice B m d)).run Tryd.prog y2 = .ok (.string SB) y2 := unhide cv2 _ Y2.bl
       replace Y2 := hide Y2; clear hb tok8 _t a0 a1 a2 a3 a4 a5 a6))
  all_goals go_wp2_with (fail)
  all_goals go_ret
  all_goals exact ⟨rfl, (unhide Y2).bl⟩

set_option maxHeartbeats 4000000 in
theorem does_m2 (s : St) (v1 v2 : Value) (a b : List UInt8) (z : Int) (w : World) (ht : Tab w) (h1 : Bs 0 w.heap.size w v1 a) (h2 : Bs 0 w.heap.size w v2 b) (h1z : 60 < z) (h2z : 4096 < z) (hl : a.length ≤ 100) (hm : b.length ≤ 100) :
    Calls Tryd.prog 3 #[stV s, v1, v2, .int .i64 z] w fun e w' => e = .returned (.bool true) ∧ Below w.heap.size w w' := by
  have h2z' : ¬ z ≤ 4096 := by omega
  have F0 : Fx w (w.alloc (.cells (stC s) 24)) [(w.heap.size, stC s)] := (Fx.nil w).newB _ rfl _
  have hlive := fun W (hb : Below w.heap.size w W) => live_any w W ht hb
  have hk1 := fun W (hb : Below w.heap.size w W) => start_any _ _ a b w W ht h1 h2 hb
  have hk2 := fun W (hb : Below w.heap.size w W) => startR_any _ _ a b w W h1 h2 hb
  have hk3 := fun W (hb : Below w.heap.size w W) => go_any s _ a z w W ht h1 hb
  have hk4 := fun W (hb : Below w.heap.size w W) => goR_any s _ a z w W h1 hb
  have hk5 := fun W (hb : Below w.heap.size w W) => key_any _ _ a b z w W ht h1 h2 hb
  have hk6 := fun W (hb : Below w.heap.size w W) => keyR_any _ _ a b z w W h1 h2 hb
  have hk7 := fun W (hb : Below w.heap.size w W) => mark_any s w W ht hb
  have hk8 := fun W (_ : Below w.heap.size w W) => markR_any s W
  have cv1 := fun W (hb : Below w.heap.size w W) => (h1.at hb).convert
  have cv2 := fun W (hb : Below w.heap.size w W) => (h2.at hb).convert
  generalize (startE a b).1 = P at *
  generalize (startE a b).2 = e1 at *
  generalize (goE s a z).1 = Q at *
  generalize (goE s a z).2 = e2 at *
  generalize (keyE a b z).1 = K at *
  generalize (keyE a b z).2 = e3 at *
  generalize markF s = M at *
  generalize strU a = SA at *
  generalize strU b = SB at *
  have qP : ∀ W, (Op.equalIn 10000 24 (stV P) (stV P)).run Tryd.prog W = .ok true W := fun W => by
    have := equalIn_st W P P
    rw [sameS_self] at this
    exact this
  have qQ : ∀ W, (Op.equalIn 10000 24 (stV Q) (stV Q)).run Tryd.prog W = .ok true W := fun W => by
    have := equalIn_st W Q Q
    rw [sameS_self] at this
    exact this
  have qK : ∀ W, (Op.equalIn 10000 24 (stV K) (stV K)).run Tryd.prog W = .ok true W := fun W => by
    have := equalIn_st W K K
    rw [sameS_self] at this
    exact this
  have hg24 := guard24
  have k1 : ¬ (100 : Int) < (a.length : Int) := by omega
  have k2 : ¬ (100 : Int) < (b.length : Int) := by omega
  obtain ⟨A, c, rfl⟩ := h1.form
  obtain ⟨B, d, rfl⟩ := h2.form
  clear h1 h2 ht hl hm
  generalize a.length = n at *
  generalize b.length = m at *
  replace F0 := hide F0; replace hlive := hide hlive; replace hk1 := hide hk1; replace hk2 := hide hk2; replace hk3 := hide hk3; replace hk4 := hide hk4; replace hk5 := hide hk5; replace hk6 := hide hk6; replace hk7 := hide hk7; replace hk8 := hide hk8; replace cv1 := hide cv1; replace cv2 := hide cv2
  have tok1 : True := trivial
  have tok2 : True := trivial
  have tok3 : True := trivial
  have tok4 : True := trivial
  have tok5 : True := trivial
  have tok6 : True := trivial
  have tok7 : True := trivial
  have tok8 : True := trivial
  go_enter Tryd.func3, Tryd.ntmps3
  go_upto_region 1 with (fail)
  generalize hW : World.alloc w _ = W at *
  clear hW
  go_upto_region 4 with (first
    | (go_at_call 8; refine (unhide hlive _ (unhide F0).bl).mono ?_; rintro e w1 ⟨rfl, hb0⟩; have F1 : Fx w w1 [(w.heap.size, stC s)] := (unhide F0).call hb0; replace F1 := hide F1; clear hb0)
    | fail)
  have x1 : (convert 25 9 (.slice A n c)).run Tryd.prog w1 = .ok (.string SA) w1 := unhide cv1 _ (unhide F1).bl
  have x2 : (convert 25 9 (.slice B m d)).run Tryd.prog w1 = .ok (.string SB) w1 := unhide cv2 _ (unhide F1).bl
  go_upto_region 12 with (first
    | (go_at_call 9; have _t := tok1; refine (unhide hk1 _ (unhide F1).bl).mono ?_; rintro e w2 ⟨rfl, hb0⟩; have F_ : Fx w w2 [(w.heap.size, stC s)] := (unhide F1).call hb0; have F2 : Fx w _ [(w.heap.size, stC s), (w2.heap.size, stC P)] := F_.newB w2.heap.size rfl (stC P); replace F2 := hide F2; clear hb0 F_ tok1 _t)
    | (go_at_call 10; have _t := tok2; refine (unhide hk2 _ (unhide F2).bl).mono ?_; rintro e w3 ⟨rfl, hb0⟩; have F_ : Fx w w3 [(w.heap.size, stC s), (w2.heap.size, stC P)] := (unhide F2).call hb0; have F3 : Fx w _ [(w.heap.size, stC s), (w2.heap.size, stC P), (w3.heap.size, stC P)] := F_.newB w3.heap.size rfl (stC P); replace F3 := hide F3; clear hb0 F_ tok2 _t)
    | (refine wpList_load_row rfl 24 (.tmp 4) rfl w.heap.size rfl 24 (stC s) (0, 0) _ ((unhide F3).get 0 rfl) Tryd.underlying24 rfl size24 ?_)
    | (go_at_call 11; have _t := tok3; refine (unhide hk3 _ (unhide F3).bl).mono ?_; rintro e w4 ⟨rfl, hb0⟩; have F_ : Fx w w4 [(w.heap.size, stC s), (w2.heap.size, stC P), (w3.heap.size, stC P)] := (unhide F3).call hb0; have F4 : Fx w _ [(w.heap.size, stC s), (w2.heap.size, stC P), (w3.heap.size, stC P), (w4.heap.size, stC Q)] := F_.newB w4.heap.size rfl (stC Q); replace F4 := hide F4; clear hb0 F_ tok3 _t)
    | (refine wpList_load_row rfl 24 (.tmp 4) rfl w.heap.size rfl 24 (stC s) (0, 0) _ ((unhide F4).get 0 rfl) Tryd.underlying24 rfl size24 ?_)
    | (go_at_call 12; have _t := tok4; refine (unhide hk4 _ (unhide F4).bl).mono ?_; rintro e w5 ⟨rfl, hb0⟩; have F_ : Fx w w5 [(w.heap.size, stC s), (w2.heap.size, stC P), (w3.heap.size, stC P), (w4.heap.size, stC Q)] := (unhide F4).call hb0; have F5 : Fx w _ [(w.heap.size, stC s), (w2.heap.size, stC P), (w3.heap.size, stC P), (w4.heap.size, stC Q), (w5.heap.size, stC Q)] := F_.newB w5.heap.size rfl (stC Q); replace F5 := hide F5; clear hb0 F_ tok4 _t)
    | (go_at_call 13; have _t := tok5; refine (unhide hk5 _ (unhide F5).bl).mono ?_; rintro e w6 ⟨rfl, hb0⟩; have F_ : Fx w w6 [(w.heap.size, stC s), (w2.heap.size, stC P), (w3.heap.size, stC P), (w4.heap.size, stC Q), (w5.heap.size, stC Q)] := (unhide F5).call hb0; have F6 : Fx w _ [(w.heap.size, stC s), (w2.heap.size, stC P), (w3.heap.size, stC P), (w4.heap.size, stC Q), (w5.heap.size, stC Q), (w6.heap.size, stC K)] := F_.newB w6.heap.size rfl (stC K); replace F6 := hide F6; clear hb0 F_ tok5 _t)
    | (go_at_call 14; have _t := tok6; refine (unhide hk6 _ (unhide F6).bl).mono ?_; rintro e w7 ⟨rfl, hb0⟩; have F_ : Fx w w7 [(w.heap.size, stC s), (w2.heap.size, stC P), (w3.heap.size, stC P), (w4.heap.size, stC Q), (w5.heap.size, stC Q), (w6.heap.size, stC K)] := (unhide F6).call hb0; have F7 : Fx w _ [(w.heap.size, stC s), (w2.heap.size, stC P), (w3.heap.size, stC P), (w4.heap.size, stC Q), (w5.heap.size, stC Q), (w6.heap.size, stC K), (w7.heap.size, stC K)] := F_.newB w7.heap.size rfl (stC K); replace F7 := hide F7; clear hb0 F_ tok6 _t)
    | fail)
  generalize hW7 : World.alloc w7 _ = V at *
  clear hW7
  have X0 : Fx w V [(w.heap.size, stC s), (w2.heap.size, stC P), (w3.heap.size, stC P), (w4.heap.size, stC Q), (w5.heap.size, stC Q), (w6.heap.size, stC K), (w7.heap.size, stC K)] := unhide F7
  clear F7 F6 F5 F4 F3 F2 F1 F0 hk1 hk2 hk3 hk4 hk5 hk6 hlive x1 x2 W
  generalize w2.heap.size = g2 at *
  generalize w3.heap.size = g3 at *
  generalize w4.heap.size = g4 at *
  generalize w5.heap.size = g5 at *
  generalize w6.heap.size = g6 at *
  generalize w7.heap.size = g7 at *
  have v0 : Blk V (w.heap.size) 24 (stC s) := X0.get 0 rfl
  have v1 : Blk V (g2) 24 (stC P) := X0.get 1 rfl
  have v2 : Blk V (g3) 24 (stC P) := X0.get 2 rfl
  have v3 : Blk V (g4) 24 (stC Q) := X0.get 3 rfl
  have v4 : Blk V (g5) 24 (stC Q) := X0.get 4 rfl
  have v5 : Blk V (g6) 24 (stC K) := X0.get 5 rfl
  have v6 : Blk V (g7) 24 (stC K) := X0.get 6 rfl
  have hc0_0 : ∀ W, Blk W (w.heap.size) 24 (stC s) → W.cell? ⟨w.heap.size, 0, none⟩ = some (u32v s.a) := fun W h => h.cell 0
  have hc0_1 : ∀ W, Blk W (w.heap.size) 24 (stC s) → W.cell? ⟨w.heap.size, 1, none⟩ = some (u32v s.b) := fun W h => h.cell 1
  have hc0_2 : ∀ W, Blk W (w.heap.size) 24 (stC s) → W.cell? ⟨w.heap.size, 2, none⟩ = some (u32v s.c) := fun W h => h.cell 2
  have hc0_3 : ∀ W, Blk W (w.heap.size) 24 (stC s) → W.cell? ⟨w.heap.size, 3, none⟩ = some (u32v s.d) := fun W h => h.cell 3
  have hc1_0 : ∀ W, Blk W (g2) 24 (stC P) → W.cell? ⟨g2, 0, none⟩ = some (u32v P.a) := fun W h => h.cell 0
  have hc1_1 : ∀ W, Blk W (g2) 24 (stC P) → W.cell? ⟨g2, 1, none⟩ = some (u32v P.b) := fun W h => h.cell 1
  have hc1_2 : ∀ W, Blk W (g2) 24 (stC P) → W.cell? ⟨g2, 2, none⟩ = some (u32v P.c) := fun W h => h.cell 2
  have hc1_3 : ∀ W, Blk W (g2) 24 (stC P) → W.cell? ⟨g2, 3, none⟩ = some (u32v P.d) := fun W h => h.cell 3
  have hc2_0 : ∀ W, Blk W (g3) 24 (stC P) → W.cell? ⟨g3, 0, none⟩ = some (u32v P.a) := fun W h => h.cell 0
  have hc2_1 : ∀ W, Blk W (g3) 24 (stC P) → W.cell? ⟨g3, 1, none⟩ = some (u32v P.b) := fun W h => h.cell 1
  have hc2_2 : ∀ W, Blk W (g3) 24 (stC P) → W.cell? ⟨g3, 2, none⟩ = some (u32v P.c) := fun W h => h.cell 2
  have hc2_3 : ∀ W, Blk W (g3) 24 (stC P) → W.cell? ⟨g3, 3, none⟩ = some (u32v P.d) := fun W h => h.cell 3
  have hc3_0 : ∀ W, Blk W (g4) 24 (stC Q) → W.cell? ⟨g4, 0, none⟩ = some (u32v Q.a) := fun W h => h.cell 0
  have hc3_1 : ∀ W, Blk W (g4) 24 (stC Q) → W.cell? ⟨g4, 1, none⟩ = some (u32v Q.b) := fun W h => h.cell 1
  have hc3_2 : ∀ W, Blk W (g4) 24 (stC Q) → W.cell? ⟨g4, 2, none⟩ = some (u32v Q.c) := fun W h => h.cell 2
  have hc3_3 : ∀ W, Blk W (g4) 24 (stC Q) → W.cell? ⟨g4, 3, none⟩ = some (u32v Q.d) := fun W h => h.cell 3
  have hc4_0 : ∀ W, Blk W (g5) 24 (stC Q) → W.cell? ⟨g5, 0, none⟩ = some (u32v Q.a) := fun W h => h.cell 0
  have hc4_1 : ∀ W, Blk W (g5) 24 (stC Q) → W.cell? ⟨g5, 1, none⟩ = some (u32v Q.b) := fun W h => h.cell 1
  have hc4_2 : ∀ W, Blk W (g5) 24 (stC Q) → W.cell? ⟨g5, 2, none⟩ = some (u32v Q.c) := fun W h => h.cell 2
  have hc4_3 : ∀ W, Blk W (g5) 24 (stC Q) → W.cell? ⟨g5, 3, none⟩ = some (u32v Q.d) := fun W h => h.cell 3
  have hc5_0 : ∀ W, Blk W (g6) 24 (stC K) → W.cell? ⟨g6, 0, none⟩ = some (u32v K.a) := fun W h => h.cell 0
  have hc5_1 : ∀ W, Blk W (g6) 24 (stC K) → W.cell? ⟨g6, 1, none⟩ = some (u32v K.b) := fun W h => h.cell 1
  have hc5_2 : ∀ W, Blk W (g6) 24 (stC K) → W.cell? ⟨g6, 2, none⟩ = some (u32v K.c) := fun W h => h.cell 2
  have hc5_3 : ∀ W, Blk W (g6) 24 (stC K) → W.cell? ⟨g6, 3, none⟩ = some (u32v K.d) := fun W h => h.cell 3
  have hc6_0 : ∀ W, Blk W (g7) 24 (stC K) → W.cell? ⟨g7, 0, none⟩ = some (u32v K.a) := fun W h => h.cell 0
  have hc6_1 : ∀ W, Blk W (g7) 24 (stC K) → W.cell? ⟨g7, 1, none⟩ = some (u32v K.b) := fun W h => h.cell 1
  have hc6_2 : ∀ W, Blk W (g7) 24 (stC K) → W.cell? ⟨g7, 2, none⟩ = some (u32v K.c) := fun W h => h.cell 2
  have hc6_3 : ∀ W, Blk W (g7) 24 (stC K) → W.cell? ⟨g7, 3, none⟩ = some (u32v K.d) := fun W h => h.cell 3
  have z0a : (convert 25 9 (.slice A n c)).run Tryd.prog V.drew = .ok (.string SA) V.drew := unhide cv1 _ X0.drew.bl
  have z0b : (convert 25 9 (.slice B m d)).run Tryd.prog V.drew = .ok (.string SB) V.drew := unhide cv2 _ X0.drew.bl
  replace X0 := hide X0
  go_region_held3 (fun W => Blk W (w.heap.size) 24 (stC s) ∧ Blk W (g2) 24 (stC P) ∧ Blk W (g3) 24 (stC P) ∧ Blk W (g4) 24 (stC Q) ∧ Blk W (g5) 24 (stC Q) ∧ Blk W (g6) 24 (stC K) ∧ Blk W (g7) 24 (stC K) ∧ (convert 25 9 (.slice A n c)).run Tryd.prog W = .ok (.string SA) W ∧ (convert 25 9 (.slice B m d)).run Tryd.prog W = .ok (.string SB) W) (first | exact ⟨v0.drew, v1.drew, v2.drew, v3.drew, v4.drew, v5.drew, v6.drew, z0a, z0b⟩ | exact ⟨by with_reducible assumption, by with_reducible assumption, by with_reducible assumption, by with_reducible assumption, by with_reducible assumption, by with_reducible assumption, by with_reducible assumption, by with_reducible assumption, by with_reducible assumption⟩) (first
    | (go_at_call 15; have _t := tok7; refine (unhide hk7 _ ((unhide X0).drew).bl).mono ?_; rintro e y1 ⟨rfl, hb⟩
       have Y1 : Fx w y1 [(w.heap.size, stC s), (g2, stC P), (g3, stC P), (g4, stC Q), (g5, stC Q), (g6, stC K), (g7, stC K)] := ((unhide X0).drew).call hb
       have a0 : Blk y1 (w.heap.size) 24 (stC s) := Y1.get 0 rfl
       have a1 : Blk y1 (g2) 24 (stC P) := Y1.get 1 rfl
       have a2 : Blk y1 (g3) 24 (stC P) := Y1.get 2 rfl
       have a3 : Blk y1 (g4) 24 (stC Q) := Y1.get 3 rfl
       have a4 : Blk y1 (g5) 24 (stC Q) := Y1.get 4 rfl
       have a5 : Blk y1 (g6) 24 (stC K) := Y1.get 5 rfl
       have a6 : Blk y1 (g7) 24 (stC K) := Y1.get 6 rfl
       have z1a : (convert 25 9 (.slice A n c)).run Tryd.prog y1 = .ok (.string SA) y1 := unhide cv1 _ Y1.bl
       have z1b : (convert 25 9 (.slice B m d)).run Tryd.prog y1 = .ok (.string SB) y1 := unhide cv2 _ Y1.bl
       replace Y1 := hide Y1; clear hb tok7 _t v0 v1 v2 v3 v4 v5 v6)
    | (go_at_call 16; have _t := tok8; refine (unhide hk8 _ (unhide Y1).bl).mono ?_; rintro e y2 ⟨rfl, hb⟩
       have Y2 : Fx w y2 [(w.heap.size, stC s), (g2, stC P), (g3, stC P), (g4, stC Q), (g5, stC Q), (g6, stC K), (g7, stC K)] := (unhide Y1).call hb
       have b0 : Blk y2 (w.heap.size) 24 (stC s) := Y2.get 0 rfl
       have b1 : Blk y2 (g2) 24 (stC P) := Y2.get 1 rfl
       have b2 : Blk y2 (g3) 24 (stC P) := Y2.get 2 rfl
       have b3 : Blk y2 (g4) 24 (stC Q) := Y2.get 3 rfl
       have b4 : Blk y2 (g5) 24 (stC Q) := Y2.get 4 rfl
       have b5 : Blk y2 (g6) 24 (stC K) := Y2.get 5 rfl
       have b6 : Blk y2 (g7) 24 (stC K) := Y2.get 6 rfl
       have z2a : (convert 25 9 (.slice A n c)).run Tryd.prog y2 = .ok (.string SA) y2 := unhide cv1 _ Y2.bl
       have z2b : (convert 25 9 (.slice B m d)).run Tryd.prog y2 = .ok (.string SB) y2 := unhide cv2 _ Y2.bl
       replace Y2 := hide Y2; clear hb tok8 _t a0 a1 a2 a3 a4 a5 a6))
  all_goals go_wp2_with (fail)
  all_goals go_ret
  all_goals exact ⟨rfl, (unhide Y2).bl⟩
theorem does_law (s : St) (v1 v2 : Value) (a b : List UInt8) (z : Int) (w : World) (ht : Tab w) (h1 : Bs 0 w.heap.size w v1 a) (h2 : Bs 0 w.heap.size w v2 b) :
    Calls Tryd.prog 3 #[stV s, v1, v2, .int .i64 z] w fun e w' => e = .returned (.bool true) ∧ Below w.heap.size w w' := by
  rcases Classical.em (z ≤ 60) with h | h
  · by_cases hg : 100 < a.length ∨ 100 < b.length
    · exact does_gate_w1 s v1 v2 a b z w ht h1 h2 h hg
    · exact does_m1 s v1 v2 a b z w ht h1 h2 h (by omega) (by omega)
  · rcases Classical.em (z ≤ 4096) with h' | h'
    · exact does_gate_r s v1 v2 a b z w ht h1 h2 (by omega) h'
    · by_cases hg : 100 < a.length ∨ 100 < b.length
      · exact does_gate_w2 s v1 v2 a b z w ht h1 h2 (by omega) (by omega) hg
      · exact does_m2 s v1 v2 a b z w ht h1 h2 (by omega) (by omega) (by omega) (by omega)
end Go.Proofs.YtjjamplgecioaaaDoor
