import Derived.Test.YtlgahaidnpgnaaaDoorN16
namespace Go.Proofs.YtlgahaidnpgnaaaDoor
open Go.RowKit

theorem Fx.start {w0 W : World} (hb : Below w0.heap.size w0 W) : Fx w0 W [] [] [] := ⟨hb, fun _ hp => (nomatch hp), fun _ hp => (nomatch hp), fun _ hp => (nomatch hp)⟩
theorem own_len {w : World} {base : Nat} {v : Value} {l : List UInt8} {m : Nat} (h : OwnB w base v l) (_ : l.length = m) : OwnB w base v l := h
theorem r_xor1 (x : Reg) : bits .xor .u32 (n32 x) (1 : Int) = n32 (x ^^^ 1#32) := r_xor x 1#32
theorem xor_one_ne (x : Reg) : x ≠ x ^^^ 1#32 := by
  intro h
  have := congrArg (fun y => x ^^^ y) h
  simp [← BitVec.xor_assoc] at this
def turn3 (t : St) : St := ⟨t.a, t.b, t.c, t.d ^^^ 1#32⟩
theorem turn3_ne (t : St) : sameS t (turn3 t) = false := by
  cases h : sameS t (turn3 t) with
  | false => rfl
  | true =>
    have := congrArg St.d (sameS_iff.1 h)
    exact absurd this (xor_one_ne t.d)
section
attribute [local go_sem] r_xor1
set_option maxHeartbeats 2000000 in
theorem live_any (w : World) (ht : Tab w) : Calls Tryd.prog 9 #[] w fun e w' => e = .returned (.bool true) ∧ Below w.heap.size w w' := by
  have hB : Blk (w.alloc (.cells #[.int .u8 5] 5)) w.heap.size 5 #[.int .u8 5] := Blk.new rfl
  have hb : Below w.heap.size w (w.alloc (.cells #[.int .u8 5] 5)) := bl_alloc (Below.refl _ _) _
  have hbs : Bs 0 (w.alloc (.cells #[.int .u8 5] 5)).heap.size (w.alloc (.cells #[.int .u8 5] 5)) (.slice (some ⟨w.heap.size, 0, none⟩) 1 1) [5] := Bs.of_blk (l := [5]) hB rfl (by omega)
  obtain ⟨K, hK⟩ : ∃ K : St, K = ⟨1#32, 0#32, 0#32, 0#32⟩ := ⟨_, rfl⟩
  obtain ⟨N, hN⟩ : ∃ N : Nx, N = 0#64 := ⟨_, rfl⟩
  have ka : n32 K.a = 1 := by rw [hK]; rfl
  have kb : n32 K.b = 0 := by rw [hK]; rfl
  have kc : n32 K.c = 0 := by rw [hK]; rfl
  have kd : n32 K.d = 0 := by rw [hK]; rfl
  have kn : n64 N = 0 := by rw [hN]; rfl
  have kf : N ≠ 18446744073709551615#64 := by rw [hN]; decide
  clear hK hN
  have hS := Seal_good K N _ [5] _ (ht.below hb (Nat.le_refl _)) hbs (by simp) kf
  have hO := fun (v : Value) T' (W : World) (hb : Below w.heap.size w W) (h : Bs 0 W.heap.size W v (hidF K N [5])) => Open_any K N v _ T' W (ht.below hb (Nat.le_refl _)) h (by rw [hid_len]; simp)
  have hlen : (hidF K N [5]).length = 1 := by rw [hid_len]; rfl
  have hl1 : ([5] : List UInt8).length = 1 := rfl
  rw [hlen] at hO
  rw [hl1] at hS
  generalize hidF K N [5] = H at *
  generalize tagF K N H = T at *
  obtain ⟨K0, K1, K2, K3⟩ := K
  simp only [] at ka kb kc kd
  unfold rgV rgC bxV bxC u32v u64v at hS
  unfold bxV bxC stV stC u32v u64v at hO
  simp only [ka, kb, kc, kd, kn] at hS hO
  have hO' := fun v W hb h => hO v (turn3 T) W hb h
  simp only [turn3_ne, Bool.false_eq_true, if_false] at hO'
  replace hlen := hide hlen; replace hS := hide hS; replace hO' := hide hO'; replace hb := hide hb
  clear hO hB hbs ht
  go_enter Tryd.func9, Tryd.ntmps9
  go_upto_region 2 with (first
    | (go_at_call 10; refine (unhide hS).mono ?_; rintro e w2 ⟨A2, c2, rfl, o2, hb2⟩
       have b2 : Below w.heap.size w w2 := bl_call (unhide hb) hb2
       have l2 : w.heap.size ≤ w2.heap.size := b2.size
       have X1 : Fx w w2 [] [(w.heap.size, .slice A2 1 c2, H)] [] := Fx.addR (Fx.start b2) (own_len (ownsRow_mono (base' := w.heap.size) o2 (unhide hb).size) (unhide hlen)) l2
       have X2 : Fx w ((w2.alloc (.cells #[.int .u64 0, .slice A2 1 c2, u32v T.a, u32v T.b, u32v T.c, u32v T.d] 30)).alloc (.cells #[.int .u32 1, .int .u32 0, .int .u32 0, .int .u32 0, .int .u64 (n64 (N + 1#64))] 27)) [(w2.heap.size, 30, #[.int .u64 0, .slice A2 1 c2, u32v T.a, u32v T.b, u32v T.c, u32v T.d])] [(w.heap.size, .slice A2 1 c2, H)] [] := (X1.newB w2.heap.size rfl #[.int .u64 0, .slice A2 1 c2, u32v T.a, u32v T.b, u32v T.c, u32v T.d] 30).alloc (.cells #[.int .u32 1, .int .u32 0, .int .u32 0, .int .u32 0, .int .u64 (n64 (N + 1#64))] 27)
       replace X2 := hide X2
       clear o2 hb2 X1 b2)
    | fail)
  generalize w2.heap.size = g2 at *
  generalize World.alloc (World.alloc w2 _) _ = W at *
  clear hS
  have k5 : W.cell? ⟨g2, 5, none⟩ = some (u32v T.d) := ((unhide X2).get 0 rfl).cell 5
  have f5 : W.frozen? ⟨g2, 5, none⟩ = false := ((unhide X2).get 0 rfl).frozen 5
  go_upto_region 3 with (fail)
  have X3 := Fx.put0 (unhide X2) l2 (by decide) (by simp) 5 (.int .u32 (n32 (T.d ^^^ 1#32)))
  clear X2 k5 f5
  generalize World.setCell W _ _ = V at *
  have b0 : V.cell? ⟨g2, 0, none⟩ = some (.int .u64 0) := (X3.get 0 rfl).cell 0
  have b1 : V.cell? ⟨g2, 1, none⟩ = some (.slice A2 1 c2) := (X3.get 0 rfl).cell 1
  have b2 : V.cell? ⟨g2, 2, none⟩ = some (u32v T.a) := (X3.get 0 rfl).cell 2
  have b3 : V.cell? ⟨g2, 3, none⟩ = some (u32v T.b) := (X3.get 0 rfl).cell 3
  have b4 : V.cell? ⟨g2, 4, none⟩ = some (u32v T.c) := (X3.get 0 rfl).cell 4
  have b5 : V.cell? ⟨g2, 5, none⟩ = some (u32v (T.d ^^^ 1#32)) := (X3.get 0 rfl).cell 5
  have hq := unhide hO' (.slice A2 1 c2) V X3.bl (Bs.of_own0 (X3.own 0 rfl))
  simp only [turn3] at hq
  have bb := X3.bl
  replace hq := hide hq; replace bb := hide bb
  clear X3 hO'
  go_wp2_with (first
    | (go_at_call 12; refine (unhide hq).mono ?_; rintro e w4 ⟨rfl, hb4⟩)
    | fail)
  go_ret
  exact ⟨rfl, bl_call (unhide bb) hb4⟩
end
end Go.Proofs.YtlgahaidnpgnaaaDoor
