import Derived.Test.YtlgahaidnpgnaaaDoorL6
namespace Go.Proofs.YtlgahaidnpgnaaaDoor
open Go.RowKit

theorem Bs.at_ {lo hi : Nat} {w : World} {A : Option Addr} {n c k : Nat} {l : List UInt8} {x : UInt8} (h : Bs lo hi w (.slice A n c) l) (hk : l[k]? = some x) :
    ∃ b off, A = some ⟨b, off, none⟩ ∧ b < hi ∧ w.cell? ⟨b, off + k, none⟩ = some (u8v x) := by
  obtain ⟨hi', rfl⟩ := List.getElem?_eq_some_iff.1 hk
  obtain ⟨A', c', e, _, _, h3⟩ := h
  injection e with e1
  obtain ⟨b, off, rfl, _, hb, hc⟩ := h3 (by omega)
  exact ⟨b, off, e1, hb, hc k hi'⟩
theorem Seal_fullE (lo : Nat) (s : St) (n : Nx) (v : Value) (l : List UInt8) (w : World) (h : Bs lo w.heap.size w v l) (hl : l.length ≤ 65536) (hn : n = 18446744073709551615#64) :
    Calls Tryd.prog 10 #[rgV s n, v] w fun e w' => e = .returned (.tuple #[.agg #[.int .u64 0, .slice none 0 0, .int .u32 0, .int .u32 0, .int .u32 0, .int .u32 0], .agg #[.int .u32 0, .int .u32 0, .int .u32 0, .int .u32 0, .int .u64 0], .int .i64 6]) ∧ Below w.heap.size w w' := by
  rw [hn]
  exact Seal_full lo s v l w h hl
set_option maxHeartbeats 1000000 in
theorem stream_gate (s : St) (n : Nx) (vb : Value) (b : List UInt8) (o : UInt8) (w : World) (ht : Tab w) (h : Bs 0 w.heap.size w vb b) (hg : 200 < b.length) :
    Calls Tryd.prog 8 #[rgV s n, vb, u8v o] w fun e w' => e = .returned (.bool true) ∧ Below w.heap.size w w' := by
  obtain ⟨A, c, rfl⟩ := h.form
  have X0 : Fx w (w.alloc (.cells (rgC s n) 27)) [(w.heap.size, 27, rgC s n)] [] [] := (Fx.nil w).newB w.heap.size rfl (rgC s n) 27
  have hl := fun W (hb : Below w.heap.size w W) => live_any W (ht.below hb (Nat.le_refl _))
  replace X0 := hide X0; replace hl := hide hl
  have k1 : (200 : Int) < (b.length : Int) := by omega
  clear hg h ht
  go_enter Tryd.func8, Tryd.ntmps8
  go_upto_region 1 with (fail)
  generalize hW : World.alloc w _ = W at *
  clear hW
  go_wp2_with (first
    | (go_at_call 9; refine (unhide hl _ (unhide X0).bl).mono ?_; rintro e w1 ⟨rfl, hb1⟩
       have X1 : Fx w w1 [(w.heap.size, 27, rgC s n)] [] [] := (unhide X0).call hb1
       replace X1 := hide X1)
    | fail)
  go_ret
  exact ⟨rfl, (unhide X1).bl⟩
set_option maxHeartbeats 4000000 in
theorem stream_full (s : St) (n : Nx) (vb : Value) (b : List UInt8) (o : UInt8) (w : World) (ht : Tab w) (h : Bs 0 w.heap.size w vb b) (hl1 : b.length ≤ 200) (hn : n = 18446744073709551615#64) :
    Calls Tryd.prog 8 #[rgV s n, vb, u8v o] w fun e w' => e = .returned (.bool true) ∧ Below w.heap.size w w' := by
  have hl := fun W (hb : Below w.heap.size w W) => live_any W (ht.below hb (Nat.le_refl _))
  have ho256 := o.toNat_lt
  obtain ⟨q, hq⟩ : ∃ q, q = o.toNat := ⟨_, rfl⟩
  have hoq : n8 o = (q : Int) := by rw [hq]; rfl
  have hT := fun W (hb : Below w.heap.size w W) => Stream_good s n (b.length + q) W (ht.below hb (Nat.le_refl _)) (by omega)
  have hSl := stream_len s n (b.length + q)
  have hS := fun W (hb : Below w.heap.size w W) => Seal_fullE 0 s n vb b W (h.to hb) (by omega) hn
  generalize streamF s n (b.length + q) = S at *
  obtain ⟨A, c, rfl⟩ := h.form
  have X0 : Fx w (w.alloc (.cells (rgC s n) 27)) [(w.heap.size, 27, rgC s n)] [] [(.slice A b.length c, b)] := Fx.addZ ((Fx.nil w).newB w.heap.size rfl (rgC s n) 27) (h.to (bl_alloc (Below.refl _ _) _))
  have k1 : ¬ (200 : Int) < (b.length : Int) := by omega
  have k2 : (q : Int) ≤ 255 := by omega
  have k3 : IntKind.i64.wrap ((b.length : Int) + (q : Int)) = (b.length : Int) + (q : Int) := IntWalk.i64_in _ (by omega)
  simp only [Int.natCast_add] at hT
  obtain ⟨m, hm⟩ : ∃ m, m = b.length := ⟨_, rfl⟩
  rw [← hm] at X0 hS hT hSl k1 k3
  rw [← hm]
  replace X0 := hide X0
  replace hl := hide hl
  replace hS := hide hS
  replace hT := hide hT
  replace hSl := hide hSl
  replace hm := hide hm
  rw [show u8v o = .int .u8 (q : Int) by rw [← hoq]]
  clear h ht hl1 hn hoq hq ho256
  go_enter Tryd.func8, Tryd.ntmps8
  go_upto_region 1 with (fail)
  generalize hW : World.alloc w _ = W at *
  clear hW
  go_upto_region 6 with (first
    | (go_at_call 9; refine (unhide hl _ (unhide X0).bl).mono ?_; rintro e w1 ⟨rfl, hb1⟩
       have X1 : Fx w w1 [(w.heap.size, 27, rgC s n)] [] [(.slice A m c, b)] := (unhide X0).call hb1
       have p0 : w1.cell? ⟨w.heap.size, 0, none⟩ = some (u32v s.a) := (X1.get 0 rfl).cell 0
       have p1 : w1.cell? ⟨w.heap.size, 1, none⟩ = some (u32v s.b) := (X1.get 0 rfl).cell 1
       have p2 : w1.cell? ⟨w.heap.size, 2, none⟩ = some (u32v s.c) := (X1.get 0 rfl).cell 2
       have p3 : w1.cell? ⟨w.heap.size, 3, none⟩ = some (u32v s.d) := (X1.get 0 rfl).cell 3
       have p4 : w1.cell? ⟨w.heap.size, 4, none⟩ = some (u64v n) := (X1.get 0 rfl).cell 4
       replace X1 := hide X1
       clear hb1)
    | (go_at_call 10; refine (unhide hS _ (unhide X1).bl).mono ?_; rintro e w2 ⟨rfl, hb2⟩
       have X2' : Fx w w2 [(w.heap.size, 27, rgC s n)] [] [] := Fx.sub ((unhide X1).call hb2) (by simp) (by simp) (by simp)
       have X2 : Fx w ((w2.alloc (.cells #[.int .u64 0, .slice none 0 0, .int .u32 0, .int .u32 0, .int .u32 0, .int .u32 0] 30)).alloc (.cells #[.int .u32 0, .int .u32 0, .int .u32 0, .int .u32 0, .int .u64 0] 27)) [(w.heap.size, 27, rgC s n)] [] [] := (X2'.alloc _).alloc _
       have l2 : w.heap.size < w2.heap.size := (X2'.get 0 rfl).lt
       have q0 : w2.cell? ⟨w.heap.size, 0, none⟩ = some (u32v s.a) := (X2'.get 0 rfl).cell 0
       have q1 : w2.cell? ⟨w.heap.size, 1, none⟩ = some (u32v s.b) := (X2'.get 0 rfl).cell 1
       have q2 : w2.cell? ⟨w.heap.size, 2, none⟩ = some (u32v s.c) := (X2'.get 0 rfl).cell 2
       have q3 : w2.cell? ⟨w.heap.size, 3, none⟩ = some (u32v s.d) := (X2'.get 0 rfl).cell 3
       have q4 : w2.cell? ⟨w.heap.size, 4, none⟩ = some (u64v n) := (X2'.get 0 rfl).cell 4
       replace X2 := hide X2
       clear hb2 X2')
    | (go_at_call 18; refine (unhide hT _ (unhide X2).bl).mono ?_; rintro e w3 ⟨A3, c3, rfl, o3, hb3⟩
       have b3 : Below w.heap.size w w3 := bl_call (unhide X2).bl hb3
       replace b3 := hide b3
       clear o3 hb3)
    | fail)
  go_wp2_with (fail)
  go_ret
  exact ⟨rfl, unhide b3⟩
section
attribute [local go_sem] q8_xor
set_option maxHeartbeats 4000000 in
theorem stream_main (s : St) (n : Nx) (vb : Value) (b : List UInt8) (o : UInt8) (w : World) (ht : Tab w) (h : Bs 0 w.heap.size w vb b) (hl1 : b.length ≤ 200) (hn : n ≠ 18446744073709551615#64) :
    Calls Tryd.prog 8 #[rgV s n, vb, u8v o] w fun e w' => e = .returned (.bool true) ∧ Below w.heap.size w w' := by
  have hl := fun W (hb : Below w.heap.size w W) => live_any W (ht.below hb (Nat.le_refl _))
  have ho256 := o.toNat_lt
  obtain ⟨q, hq⟩ : ∃ q, q = o.toNat := ⟨_, rfl⟩
  have hoq : n8 o = (q : Int) := by rw [hq]; rfl
  have hT := fun W (hb : Below w.heap.size w W) => Stream_good s n (b.length + q) W (ht.below hb (Nat.le_refl _)) (by omega)
  have hSl := stream_len s n (b.length + q)
  have hS := fun W (hb : Below w.heap.size w W) => Seal_good s n vb b W (ht.below hb (Nat.le_refl _)) (h.to hb) (by omega) hn
  have hg : ∀ i x, b[i]? = some x → ∃ y, (streamF s n (b.length + q))[i]? = some y ∧ (hidF s n b)[i]? = some (x ^^^ y) := fun i x hx => by
    obtain ⟨hi, rfl⟩ := List.getElem?_eq_some_iff.1 hx
    exact ⟨_, List.getElem?_eq_getElem (by rw [stream_len]; omega), hid_get s n b q i hi⟩
  have hHl := hid_len s n b
  generalize streamF s n (b.length + q) = S at *
  generalize tagF s n (hidF s n b) = T at *
  generalize hidF s n b = H at *
  obtain ⟨A, c, rfl⟩ := h.form
  have X0 : Fx w (w.alloc (.cells (rgC s n) 27)) [(w.heap.size, 27, rgC s n)] [] [(.slice A b.length c, b)] := Fx.addZ ((Fx.nil w).newB w.heap.size rfl (rgC s n) 27) (h.to (bl_alloc (Below.refl _ _) _))
  have k1 : ¬ (200 : Int) < (b.length : Int) := by omega
  have k2 : (q : Int) ≤ 255 := by omega
  have k3 : IntKind.i64.wrap ((b.length : Int) + (q : Int)) = (b.length : Int) + (q : Int) := IntWalk.i64_in _ (by omega)
  simp only [Int.natCast_add] at hT
  obtain ⟨m, hm⟩ : ∃ m, m = b.length := ⟨_, rfl⟩
  rw [← hm] at X0 hS hT hSl k1 k3 hHl
  rw [← hm]
  replace X0 := hide X0
  replace hl := hide hl
  replace hS := hide hS
  replace hT := hide hT
  replace hSl := hide hSl
  replace hm := hide hm
  replace hg := hide hg
  replace hHl := hide hHl
  rw [show u8v o = .int .u8 (q : Int) by rw [← hoq]]
  clear h ht hl1 hn hoq hq ho256
  go_enter Tryd.func8, Tryd.ntmps8
  go_upto_region 1 with (fail)
  generalize hW : World.alloc w _ = W at *
  clear hW
  go_upto_region 8 with (first
    | (go_at_call 9; refine (unhide hl _ (unhide X0).bl).mono ?_; rintro e w1 ⟨rfl, hb1⟩
       have X1 : Fx w w1 [(w.heap.size, 27, rgC s n)] [] [(.slice A m c, b)] := (unhide X0).call hb1
       have p0 : w1.cell? ⟨w.heap.size, 0, none⟩ = some (u32v s.a) := (X1.get 0 rfl).cell 0
       have p1 : w1.cell? ⟨w.heap.size, 1, none⟩ = some (u32v s.b) := (X1.get 0 rfl).cell 1
       have p2 : w1.cell? ⟨w.heap.size, 2, none⟩ = some (u32v s.c) := (X1.get 0 rfl).cell 2
       have p3 : w1.cell? ⟨w.heap.size, 3, none⟩ = some (u32v s.d) := (X1.get 0 rfl).cell 3
       have p4 : w1.cell? ⟨w.heap.size, 4, none⟩ = some (u64v n) := (X1.get 0 rfl).cell 4
       replace X1 := hide X1
       clear hb1)
    | (go_at_call 10; refine (unhide hS _ (unhide X1).bl).mono ?_; rintro e w2 ⟨A2, c2, rfl, o2, hb2⟩
       have X2' : Fx w w2 [(w.heap.size, 27, rgC s n)] [] [(.slice A m c, b), (.slice A2 m c2, H)] := Fx.addZ ((unhide X1).call hb2) (Bs.of_own0 o2)
       have X2 : Fx w ((w2.alloc (.cells (bxC n (.slice A2 m c2) T) 30)).alloc (.cells (rgC s (n + 1#64)) 27)) [(w.heap.size, 27, rgC s n), (w2.heap.size, 30, bxC n (.slice A2 m c2) T)] [] [(.slice A m c, b), (.slice A2 m c2, H)] := (X2'.newB w2.heap.size rfl (bxC n (.slice A2 m c2) T) 30).alloc (.cells (rgC s (n + 1#64)) 27)
       have l2 : w.heap.size < w2.heap.size := (X2'.get 0 rfl).lt
       have q0 : w2.cell? ⟨w.heap.size, 0, none⟩ = some (u32v s.a) := (X2'.get 0 rfl).cell 0
       have q1 : w2.cell? ⟨w.heap.size, 1, none⟩ = some (u32v s.b) := (X2'.get 0 rfl).cell 1
       have q2 : w2.cell? ⟨w.heap.size, 2, none⟩ = some (u32v s.c) := (X2'.get 0 rfl).cell 2
       have q3 : w2.cell? ⟨w.heap.size, 3, none⟩ = some (u32v s.d) := (X2'.get 0 rfl).cell 3
       have q4 : w2.cell? ⟨w.heap.size, 4, none⟩ = some (u64v n) := (X2'.get 0 rfl).cell 4
       replace X2 := hide X2
       clear o2 hb2 X2')
    | (go_at_call 18; refine (unhide hT _ (unhide X2).bl).mono ?_; rintro e w3 ⟨A3, c3, rfl, o3, hb3⟩
       have X3 : Fx w w3 [(w.heap.size, 27, rgC s n), (w2.heap.size, 30, bxC n (.slice A2 m c2) T)] [] [(.slice A m c, b), (.slice A2 m c2, H), (.slice A3 (m + q) c3, S)] := Fx.addZ ((unhide X2).call hb3) (Bs.of_own0 o3)
       have x1 : w3.cell? ⟨w2.heap.size, 1, none⟩ = some (.slice A2 m c2) := (X3.get 1 rfl).cell 1
       replace X3 := hide X3
       clear o3 hb3)
    | fail)
  have l2' : w2.heap.size < w3.heap.size := ((unhide X3).get 1 rfl).lt
  generalize w2.heap.size = g2 at *
  have q0 : (0 : Int) ≤ (q : Int) := by omega
  go_wp2_with (fail)
  replace k3 := hide k3
  go_loopw [13, 14, 73] (fun _ _ i wr => ∃ k : Nat, k ≤ m ∧ i = .int .i64 k ∧ Hid (Fx w wr [(w.heap.size, 27, rgC s n), (g2, 30, bxC n (.slice A2 m c2) T)] [] [(.slice A m c, b), (.slice A2 m c2, H), (.slice A3 (m + q) c3, S)])) (fun _ _ i _ => m - (intOf i).toNat)
  case atStart => exact ⟨0, by omega, rfl, X3⟩
  case round =>
    obtain ⟨k, hkm, rfl, X⟩ := hrel
    by_cases hlt : k < m
    · have y1 : (k : Int) < (m : Int) := by omega
      have y2 : (k : Int) < (m : Int) + (q : Int) := by omega
      have y3 : k < m + q := by omega
      have y0 : (0 : Int) ≤ (k : Int) := by omega
      obtain ⟨xb, hxb⟩ : ∃ xb, b[k]? = some xb := ⟨_, List.getElem?_eq_getElem (by rw [← unhide hm]; exact hlt)⟩
      obtain ⟨y, hy, hH⟩ := unhide hg k xb hxb
      obtain ⟨b1, o1, rfl, lb1, e1⟩ := ((unhide X).rd 0 rfl).at_ hxb
      obtain ⟨b2, o2, rfl, lb2, e2⟩ := ((unhide X).rd 1 rfl).at_ hH
      obtain ⟨b3, o3, rfl, lb3, e3⟩ := ((unhide X).rd 2 rfl).at_ hy
      have z1 : wr.cell? ⟨g2, 1, none⟩ = some (.slice (some ⟨b2, o2, none⟩) m c2) := ((unhide X).get 1 rfl).cell 1
      have lz : g2 < wr.heap.size := ((unhide X).get 1 rfl).lt
      clear hxb hy hH
      go_upto_region 13 with (fail)
      go_quiet (fail)
      go_wp2_with (fail)
      go_roundw
      case rel => exact ⟨k + 1, by omega, by go_num, hide ((unhide X).drewN _)⟩
      case measure => simp [intOf]; omega
    · obtain rfl : k = m := by omega
      go_wp2_with (fail)
      go_ret
      exact ⟨rfl, (unhide X).bl⟩
end
theorem stream_law (s : St) (n : Nx) (vb : Value) (b : List UInt8) (o : UInt8) (w : World) (ht : Tab w) (h : Bs 0 w.heap.size w vb b) :
    Calls Tryd.prog 8 #[rgV s n, vb, u8v o] w fun e w' => e = .returned (.bool true) ∧ Below w.heap.size w w' := by
  by_cases h1 : 200 < b.length
  · exact stream_gate s n vb b o w ht h h1
  · by_cases h2 : n = 18446744073709551615#64
    · exact stream_full s n vb b o w ht h (by omega) h2
    · exact stream_main s n vb b o w ht h (by omega) h2
end Go.Proofs.YtlgahaidnpgnaaaDoor
