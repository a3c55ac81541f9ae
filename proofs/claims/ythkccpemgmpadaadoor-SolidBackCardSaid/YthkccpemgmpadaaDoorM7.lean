import Derived.Test.YthkccpemgmpadaaDoorM6
import Derived.Test.YthkccpemgmpadaaDoorRows
import Derived.Test.YthkccpemgmpadaaDoorCards
import Derived.Test.YthkccpemgmpadaaDoorTie
import Derived.ProofKit
import Derived.OpenShut
import Derived.ChangeOld
import Derived.ChangeSame
import Derived.Below
import Derived.Deep.Slices
import Derived.Deep.Fields
import Derived.Lib.SmallJoins
import Derived.LaidMore
import Derived.Stop.Joined
import Derived.SevenTiedAt
import Derived.Test.YthkccpemgmpadaaDoorM5
import Derived.Test.YthkccpemgmpadaaDoorM4
import Derived.Test.YthkccpemgmpadaaDoorM1
import Derived.LoopN
namespace Go.Proofs.YthkccpemgmpadaaDoor
set_option maxRecDepth 100000
open Go.RowKit

theorem Blk.grown {V w' : World} {g : Nat} {t : TypeId} {cs : Array Value} (h : Blk V g t cs) {base : Nat} {v : Value} {n : Nat} {xs : List Value} (ho : V.ownsRow base 5 1 v n xs) (hg : V.grownBy w' v.ownBlock) (ht : t ≠ 5) : Blk w' g t cs := by
  refine (hg.block g h.lt ?_).trans h
  rcases ho.2 with ⟨rfl, _⟩ | ⟨g', cap, cur, rfl, _, hh, _⟩
  · simp [Value.ownBlock]
  · intro e
    simp [Value.ownBlock] at e
    subst e
    exact Blk.ne_ h (t' := 5) (cs' := cur) hh ht rfl
theorem Fx.grown {w0 V w' : World} {L : List (Nat × TypeId × Array Value)} (h : Fx w0 V L [] []) {base : Nat} {v : Value} {n : Nat} {xs : List Value} (ho : V.ownsRow base 5 1 v n xs) (hg : V.grownBy w' v.ownBlock) (hb : w0.heap.size ≤ base) (hL : ∀ p ∈ L, p.2.1 ≠ 5) : Fx w0 w' L [] [] :=
  ⟨h.bl.grown hg h.bl.size (fun k hk => Nat.le_trans hb (own_base ho k hk)), fun p hp => (h.blk p hp).grown ho hg (hL p hp), fun _ hp => (nomatch hp), fun _ hp => (nomatch hp)⟩
theorem own_n {w : World} {base : Nat} {v : Value} {l : List UInt8} {m : Nat} (h : OwnB w base v l) (hl : l.length = m) : w.ownsRow base 5 1 v m (l.map u8v) := by subst hl; exact h
/-- A box that was new is written. -/
theorem Fx.put4 {w0 V : World} {b : Nat} {t : TypeId} {cs : Array Value} {g : Nat} {a e c d x y z u : Value} (h : Fx w0 V [(b, t, cs)] [] []) (hg : Blk V g 24 #[a, e, c, d]) (hl : w0.heap.size < g) :
    Fx w0 ((((V.setCell ⟨g, 0, none⟩ x).setCell ⟨g, 1, none⟩ y).setCell ⟨g, 2, none⟩ z).setCell ⟨g, 3, none⟩ u) [(g, 24, #[x, y, z, u])] [] [] :=
  ⟨below_set4 h.bl (Nat.le_of_lt hl), fun p hp => by rw [List.mem_singleton.1 hp]; exact Blk.set4 hg, fun _ hp => (nomatch hp), fun _ hp => (nomatch hp)⟩

set_option maxHeartbeats 4000000 in
theorem Stream_good (s : St) (n : Nx) (k : Nat) (w : World) (ht : Tab w) (hk : k ≤ 65536) :
    Calls Tryd.prog 58 #[stV s, u64v n, .int .i64 k] w fun e w' => ∃ A c, e = .returned (.tuple #[.slice A k c, .int .i64 0]) ∧ OwnB w' w.heap.size (.slice A k c) (streamF s n k) ∧ Below w.heap.size w w' := by
  obtain ⟨i0, hi0, hz0, hz1, hz2⟩ := info_parts info5
  have X0 : Fx w (w.alloc (.cells (stC s) 24)) [(w.heap.size, 24, stC s)] [] [] := (Fx.nil w).newB w.heap.size rfl (stC s) 24
  have hk0 : ¬ (k : Int) < 0 := by omega
  have hk1 : ¬ (65536 : Int) < (k : Int) := by omega
  have hl8 := eight_len n
  have hq := fun va W (hb : Below w.heap.size w W) (h' : Bs 0 W.heap.size W va (eight n ++ [1])) => behind_any s (.slice none 0 0) va [] (eight n ++ [1]) W (ht.below hb (Nat.le_refl _)) h' (Bs.nil0 _) (by simp) (by simp [hl8])
  simp only [List.append_nil] at hq
  have hs := fun W (hb : Below w.heap.size w W) => Squeeze_good (absorbF s (eight n ++ [1])) k W (ht.below hb (Nat.le_refl _)) (by omega)
  have hF : streamF s n k = squeezeF (absorbF s (eight n ++ [1])) k := rfl
  rw [hF]
  generalize absorbF s (eight n ++ [1]) = S' at *
  have hl9 : (eight n ++ [1]).length = 8 + 1 := by rw [List.length_append, hl8]; rfl
  have ho2 := u8s_one [1]
  have b3 : 8 + 1 ≤ maxLen := by simp only [maxLen]; omega
  have b4 : (8 + 1) * 1 ≤ 140737488355328 := by omega
  generalize squeezeF S' k = out at *
  replace X0 := hide X0; replace hq := hide hq; replace hs := hide hs; replace hl9 := hide hl9; replace hl8 := hide hl8; replace ho2 := hide ho2; replace b3 := hide b3; replace b4 := hide b4
  clear hF ht
  go_enter Tryd.func58, Tryd.ntmps58
  go_upto_region 5 with (fail)
  generalize hW : World.alloc w _ = W at *
  clear hW
  have l0 : w.heap.size < W.heap.size := ((unhide X0).get 0 rfl).lt
  have c00 : W.cell? ⟨w.heap.size, 0, none⟩ = some (u32v s.a) := ((unhide X0).get 0 rfl).cell 0
  have c01 : W.cell? ⟨w.heap.size, 1, none⟩ = some (u32v s.b) := ((unhide X0).get 0 rfl).cell 1
  have c02 : W.cell? ⟨w.heap.size, 2, none⟩ = some (u32v s.c) := ((unhide X0).get 0 rfl).cell 2
  have c03 : W.cell? ⟨w.heap.size, 3, none⟩ = some (u32v s.d) := ((unhide X0).get 0 rfl).cell 3
  go_cut [8, 9] (fun s8 s9 wx => ∃ g, s8 = .pointer (some ⟨g, 0, none⟩) ∧ s9 = .int .i64 0 ∧ Hid (Fx w wx [(g, 24, stC S')] [] []))
  case first =>
    go_region_held3 (fun W => W.cell? ⟨w.heap.size, 0, none⟩ = some (u32v s.a) ∧ W.cell? ⟨w.heap.size, 1, none⟩ = some (u32v s.b) ∧ W.cell? ⟨w.heap.size, 2, none⟩ = some (u32v s.c) ∧ W.cell? ⟨w.heap.size, 3, none⟩ = some (u32v s.d)) (first | exact ⟨by with_reducible assumption, by with_reducible assumption, by with_reducible assumption, by with_reducible assumption⟩ | exact ⟨by go_simp, by go_simp, by go_simp, by go_simp⟩)
      (first
      | (go_at_call 40; refine (octets_any n W.drew).mono ?_; rintro e w5 ⟨v5, rfl, o5, hb5⟩
         obtain ⟨A5, c5, rfl⟩ : ∃ A c, v5 = .slice A 8 c := by obtain ⟨A, c, e⟩ := o5.form; exact ⟨A, c, by rw [e, unhide hl8]⟩
         have o5' : w5.ownsRow (w.heap.size + 1) 5 1 (.slice A5 8 c5) 8 ((eight n).map u8v) := own_n (ownsRow_mono (base' := w.heap.size + 1) o5 (Nat.succ_le_of_lt l0)) (unhide hl8)
         have X5 : Fx w w5 [(w.heap.size, 24, stC s)] [] [] := Fx.call (unhide X0).drew hb5
         have l5 : w.heap.size < w5.heap.size := (X5.get 0 rfl).lt
         have c50 : w5.cell? ⟨w.heap.size, 0, none⟩ = some (u32v s.a) := (X5.get 0 rfl).cell 0
         have c51 : w5.cell? ⟨w.heap.size, 1, none⟩ = some (u32v s.b) := (X5.get 0 rfl).cell 1
         have c52 : w5.cell? ⟨w.heap.size, 2, none⟩ = some (u32v s.c) := (X5.get 0 rfl).cell 2
         have c53 : w5.cell? ⟨w.heap.size, 3, none⟩ = some (u32v s.d) := (X5.get 0 rfl).cell 3
         replace X5 := hide X5; replace o5' := hide o5'
         clear o5 hb5)
      | (go_at_call 40; refine (octets_any n (W.drew.alloc (.cells #[u8v 1] 5))).mono ?_; rintro e w5 ⟨v5, rfl, o5, hb5⟩
         obtain ⟨A5, c5, rfl⟩ : ∃ A c, v5 = .slice A 8 c := by obtain ⟨A, c, e⟩ := o5.form; exact ⟨A, c, by rw [e, unhide hl8]⟩
         have o5' : w5.ownsRow (w.heap.size + 1) 5 1 (.slice A5 8 c5) 8 ((eight n).map u8v) := own_n (ownsRow_mono (base' := w.heap.size + 1) o5 (sz_alloc (Nat.succ_le_of_lt l0) (.cells #[u8v 1] 5))) (unhide hl8)
         have X5 : Fx w w5 [(w.heap.size, 24, stC s)] [] [] := Fx.call ((unhide X0).drew.alloc (.cells #[u8v 1] 5)) hb5
         have R5 : Blk w5 (W.heap.size) 5 #[u8v 1] := Blk.call (V := (W.drew.alloc (.cells #[u8v 1] 5))) (Blk.new (w := W.drew) (t := 5) (cs := #[u8v 1]) rfl) hb5
         replace R5 := hide R5
         have l5 : w.heap.size < w5.heap.size := (X5.get 0 rfl).lt
         have c50 : w5.cell? ⟨w.heap.size, 0, none⟩ = some (u32v s.a) := (X5.get 0 rfl).cell 0
         have c51 : w5.cell? ⟨w.heap.size, 1, none⟩ = some (u32v s.b) := (X5.get 0 rfl).cell 1
         have c52 : w5.cell? ⟨w.heap.size, 2, none⟩ = some (u32v s.c) := (X5.get 0 rfl).cell 2
         have c53 : w5.cell? ⟨w.heap.size, 3, none⟩ = some (u32v s.d) := (X5.get 0 rfl).cell 3
         replace X5 := hide X5; replace o5' := hide o5'
         clear o5 hb5)
      | (go_at_call 40; refine (octets_any n (W.drew.alloc (.cells zC 24))).mono ?_; rintro e w5 ⟨v5, rfl, o5, hb5⟩
         obtain ⟨A5, c5, rfl⟩ : ∃ A c, v5 = .slice A 8 c := by obtain ⟨A, c, e⟩ := o5.form; exact ⟨A, c, by rw [e, unhide hl8]⟩
         have o5' : w5.ownsRow (w.heap.size + 1) 5 1 (.slice A5 8 c5) 8 ((eight n).map u8v) := own_n (ownsRow_mono (base' := w.heap.size + 1) o5 (sz_alloc (Nat.succ_le_of_lt l0) (.cells zC 24))) (unhide hl8)
         have X5 : Fx w w5 [(w.heap.size, 24, stC s)] [] [] := Fx.call ((unhide X0).drew.alloc (.cells zC 24)) hb5
         have Z5 : Blk w5 (W.heap.size) 24 zC := Blk.call (V := (W.drew.alloc (.cells zC 24))) (Blk.new (w := W.drew) (t := 24) (cs := zC) rfl) hb5
         have n5 : w.heap.size < W.heap.size := by omega
         replace Z5 := hide Z5; replace n5 := hide n5
         have l5 : w.heap.size < w5.heap.size := (X5.get 0 rfl).lt
         have c50 : w5.cell? ⟨w.heap.size, 0, none⟩ = some (u32v s.a) := (X5.get 0 rfl).cell 0
         have c51 : w5.cell? ⟨w.heap.size, 1, none⟩ = some (u32v s.b) := (X5.get 0 rfl).cell 1
         have c52 : w5.cell? ⟨w.heap.size, 2, none⟩ = some (u32v s.c) := (X5.get 0 rfl).cell 2
         have c53 : w5.cell? ⟨w.heap.size, 3, none⟩ = some (u32v s.d) := (X5.get 0 rfl).cell 3
         replace X5 := hide X5; replace o5' := hide o5'
         clear o5 hb5)
      | (go_at_call 40; refine (octets_any n ((W.drew.alloc (.cells #[u8v 1] 5)).alloc (.cells zC 24))).mono ?_; rintro e w5 ⟨v5, rfl, o5, hb5⟩
         obtain ⟨A5, c5, rfl⟩ : ∃ A c, v5 = .slice A 8 c := by obtain ⟨A, c, e⟩ := o5.form; exact ⟨A, c, by rw [e, unhide hl8]⟩
         have o5' : w5.ownsRow (w.heap.size + 1) 5 1 (.slice A5 8 c5) 8 ((eight n).map u8v) := own_n (ownsRow_mono (base' := w.heap.size + 1) o5 (sz_alloc (sz_alloc (Nat.succ_le_of_lt l0) (.cells #[u8v 1] 5)) (.cells zC 24))) (unhide hl8)
         have X5 : Fx w w5 [(w.heap.size, 24, stC s)] [] [] := Fx.call (((unhide X0).drew.alloc (.cells #[u8v 1] 5)).alloc (.cells zC 24)) hb5
         have R5 : Blk w5 (W.heap.size) 5 #[u8v 1] := Blk.call (V := ((W.drew.alloc (.cells #[u8v 1] 5)).alloc (.cells zC 24))) (Blk.alloc (Blk.new (w := W.drew) (t := 5) (cs := #[u8v 1]) rfl) (.cells zC 24)) hb5
         replace R5 := hide R5
         have Z5 : Blk w5 (W.heap.size + 1) 24 zC := Blk.call (V := ((W.drew.alloc (.cells #[u8v 1] 5)).alloc (.cells zC 24))) (Blk.new (w := W.drew.alloc (.cells #[u8v 1] 5)) (t := 24) (cs := zC) (by simp)) hb5
         have n5 : w.heap.size < W.heap.size + 1 := by omega
         replace Z5 := hide Z5; replace n5 := hide n5
         have l5 : w.heap.size < w5.heap.size := (X5.get 0 rfl).lt
         have c50 : w5.cell? ⟨w.heap.size, 0, none⟩ = some (u32v s.a) := (X5.get 0 rfl).cell 0
         have c51 : w5.cell? ⟨w.heap.size, 1, none⟩ = some (u32v s.b) := (X5.get 0 rfl).cell 1
         have c52 : w5.cell? ⟨w.heap.size, 2, none⟩ = some (u32v s.c) := (X5.get 0 rfl).cell 2
         have c53 : w5.cell? ⟨w.heap.size, 3, none⟩ = some (u32v s.d) := (X5.get 0 rfl).cell 3
         replace X5 := hide X5; replace o5' := hide o5'
         clear o5 hb5)
      | (go_at_call 40; refine (octets_any n ((W.drew.alloc (.cells zC 24)).alloc (.cells #[u8v 1] 5))).mono ?_; rintro e w5 ⟨v5, rfl, o5, hb5⟩
         obtain ⟨A5, c5, rfl⟩ : ∃ A c, v5 = .slice A 8 c := by obtain ⟨A, c, e⟩ := o5.form; exact ⟨A, c, by rw [e, unhide hl8]⟩
         have o5' : w5.ownsRow (w.heap.size + 1) 5 1 (.slice A5 8 c5) 8 ((eight n).map u8v) := own_n (ownsRow_mono (base' := w.heap.size + 1) o5 (sz_alloc (sz_alloc (Nat.succ_le_of_lt l0) (.cells zC 24)) (.cells #[u8v 1] 5))) (unhide hl8)
         have X5 : Fx w w5 [(w.heap.size, 24, stC s)] [] [] := Fx.call (((unhide X0).drew.alloc (.cells zC 24)).alloc (.cells #[u8v 1] 5)) hb5
         have R5 : Blk w5 (W.heap.size + 1) 5 #[u8v 1] := Blk.call (V := ((W.drew.alloc (.cells zC 24)).alloc (.cells #[u8v 1] 5))) (Blk.new (w := W.drew.alloc (.cells zC 24)) (t := 5) (cs := #[u8v 1]) (by simp)) hb5
         replace R5 := hide R5
         have Z5 : Blk w5 (W.heap.size) 24 zC := Blk.call (V := ((W.drew.alloc (.cells zC 24)).alloc (.cells #[u8v 1] 5))) (Blk.alloc (Blk.new (w := W.drew) (t := 24) (cs := zC) rfl) (.cells #[u8v 1] 5)) hb5
         have n5 : w.heap.size < W.heap.size := by omega
         replace Z5 := hide Z5; replace n5 := hide n5
         have l5 : w.heap.size < w5.heap.size := (X5.get 0 rfl).lt
         have c50 : w5.cell? ⟨w.heap.size, 0, none⟩ = some (u32v s.a) := (X5.get 0 rfl).cell 0
         have c51 : w5.cell? ⟨w.heap.size, 1, none⟩ = some (u32v s.b) := (X5.get 0 rfl).cell 1
         have c52 : w5.cell? ⟨w.heap.size, 2, none⟩ = some (u32v s.c) := (X5.get 0 rfl).cell 2
         have c53 : w5.cell? ⟨w.heap.size, 3, none⟩ = some (u32v s.d) := (X5.get 0 rfl).cell 3
         replace X5 := hide X5; replace o5' := hide o5'
         clear o5 hb5)
      | (refine step_app rfl (.tmp 17) (.tmp 18) 31 rfl (w.heap.size + 1) 5 i0 _ 1 1 Tryd.underlying31 hi0 hz0 hz1 hz2 rfl (Nat.succ_pos _) _ 8 ((eight n).map u8v) rfl (unhide o5') _ 1 1 (([1] : List UInt8).map u8v) rfl rfl (one_row (unhide R5)) (unhide ho2) (unhide b3) (unhide b4) (Nat.succ_le_of_lt l5) ?_
         intro v6 w6 o6 hg6
         have X6 : Fx w w6 [(w.heap.size, 24, stC s)] [] [] := Fx.grown (unhide X5) (unhide o5') hg6 (Nat.le_succ _) (by simp)
         have y6 : Bs 0 w6.heap.size w6 v6 (eight n ++ [1]) := Bs.of_own0 (own_app o6 (by rw [unhide hl9]))
         obtain ⟨A6, c6, rfl⟩ : ∃ A c, v6 = .slice A (8 + 1) c := by obtain ⟨A, c, e⟩ := y6.form; exact ⟨A, c, by rw [e, unhide hl9]⟩
         (first | (have Z6 : Blk w6 (W.heap.size) 24 zC := Blk.grown (V := w5) (unhide Z5) (unhide o5') hg6 (by decide); have n6 : w.heap.size < W.heap.size := unhide n5; replace Z6 := hide Z6; replace n6 := hide n6) | skip)
         (first | (have Z6 : Blk w6 (W.heap.size + 1) 24 zC := Blk.grown (V := w5) (unhide Z5) (unhide o5') hg6 (by decide); have n6 : w.heap.size < W.heap.size + 1 := unhide n5; replace Z6 := hide Z6; replace n6 := hide n6) | skip)
         have l6 : w.heap.size < w6.heap.size := (X6.get 0 rfl).lt
         have c60 : w6.cell? ⟨w.heap.size, 0, none⟩ = some (u32v s.a) := (X6.get 0 rfl).cell 0
         have c61 : w6.cell? ⟨w.heap.size, 1, none⟩ = some (u32v s.b) := (X6.get 0 rfl).cell 1
         have c62 : w6.cell? ⟨w.heap.size, 2, none⟩ = some (u32v s.c) := (X6.get 0 rfl).cell 2
         have c63 : w6.cell? ⟨w.heap.size, 3, none⟩ = some (u32v s.d) := (X6.get 0 rfl).cell 3
         replace X6 := hide X6; replace y6 := hide y6
         clear o6 hg6)
      | (refine step_app rfl (.tmp 17) (.tmp 18) 31 rfl (w.heap.size + 1) 5 i0 _ 1 1 Tryd.underlying31 hi0 hz0 hz1 hz2 rfl (Nat.succ_pos _) _ 8 ((eight n).map u8v) rfl (World.ownsRow.alloc (unhide o5') (.cells #[u8v 1] 5)) _ 1 1 (([1] : List UInt8).map u8v) rfl rfl (one_src w5 1) (unhide ho2) (unhide b3) (unhide b4) (sz_alloc (Nat.succ_le_of_lt l5) (.cells #[u8v 1] 5)) ?_
         intro v6 w6 o6 hg6
         have X6 : Fx w w6 [(w.heap.size, 24, stC s)] [] [] := Fx.grown ((unhide X5).alloc (.cells #[u8v 1] 5)) (World.ownsRow.alloc (unhide o5') (.cells #[u8v 1] 5)) hg6 (Nat.le_succ _) (by simp)
         have y6 : Bs 0 w6.heap.size w6 v6 (eight n ++ [1]) := Bs.of_own0 (own_app o6 (by rw [unhide hl9]))
         obtain ⟨A6, c6, rfl⟩ : ∃ A c, v6 = .slice A (8 + 1) c := by obtain ⟨A, c, e⟩ := y6.form; exact ⟨A, c, by rw [e, unhide hl9]⟩
         (first | (have Z6 : Blk w6 (W.heap.size) 24 zC := Blk.grown (V := (w5.alloc (.cells #[u8v 1] 5))) (Blk.alloc (unhide Z5) (.cells #[u8v 1] 5)) (World.ownsRow.alloc (unhide o5') (.cells #[u8v 1] 5)) hg6 (by decide); have n6 : w.heap.size < W.heap.size := unhide n5; replace Z6 := hide Z6; replace n6 := hide n6) | skip)
         (first | (have Z6 : Blk w6 (W.heap.size + 1) 24 zC := Blk.grown (V := (w5.alloc (.cells #[u8v 1] 5))) (Blk.alloc (unhide Z5) (.cells #[u8v 1] 5)) (World.ownsRow.alloc (unhide o5') (.cells #[u8v 1] 5)) hg6 (by decide); have n6 : w.heap.size < W.heap.size + 1 := unhide n5; replace Z6 := hide Z6; replace n6 := hide n6) | skip)
         have l6 : w.heap.size < w6.heap.size := (X6.get 0 rfl).lt
         have c60 : w6.cell? ⟨w.heap.size, 0, none⟩ = some (u32v s.a) := (X6.get 0 rfl).cell 0
         have c61 : w6.cell? ⟨w.heap.size, 1, none⟩ = some (u32v s.b) := (X6.get 0 rfl).cell 1
         have c62 : w6.cell? ⟨w.heap.size, 2, none⟩ = some (u32v s.c) := (X6.get 0 rfl).cell 2
         have c63 : w6.cell? ⟨w.heap.size, 3, none⟩ = some (u32v s.d) := (X6.get 0 rfl).cell 3
         replace X6 := hide X6; replace y6 := hide y6
         clear o6 hg6)
      | (refine step_app rfl (.tmp 17) (.tmp 18) 31 rfl (w.heap.size + 1) 5 i0 _ 1 1 Tryd.underlying31 hi0 hz0 hz1 hz2 rfl (Nat.succ_pos _) _ 8 ((eight n).map u8v) rfl (World.ownsRow.alloc (unhide o5') (.cells zC 24)) _ 1 1 (([1] : List UInt8).map u8v) rfl rfl (one_row (Blk.alloc (unhide R5) (.cells zC 24))) (unhide ho2) (unhide b3) (unhide b4) (sz_alloc (Nat.succ_le_of_lt l5) (.cells zC 24)) ?_
         intro v6 w6 o6 hg6
         have X6 : Fx w w6 [(w.heap.size, 24, stC s)] [] [] := Fx.grown ((unhide X5).alloc (.cells zC 24)) (World.ownsRow.alloc (unhide o5') (.cells zC 24)) hg6 (Nat.le_succ _) (by simp)
         have y6 : Bs 0 w6.heap.size w6 v6 (eight n ++ [1]) := Bs.of_own0 (own_app o6 (by rw [unhide hl9]))
         obtain ⟨A6, c6, rfl⟩ : ∃ A c, v6 = .slice A (8 + 1) c := by obtain ⟨A, c, e⟩ := y6.form; exact ⟨A, c, by rw [e, unhide hl9]⟩
         have Z6 : Blk w6 (w5.heap.size) 24 zC := Blk.grown (V := (w5.alloc (.cells zC 24))) (Blk.new (w := w5) (t := 24) (cs := zC) rfl) (World.ownsRow.alloc (unhide o5') (.cells zC 24)) hg6 (by decide)
         have n6 : w.heap.size < w5.heap.size := by omega
         replace Z6 := hide Z6; replace n6 := hide n6
         have l6 : w.heap.size < w6.heap.size := (X6.get 0 rfl).lt
         have c60 : w6.cell? ⟨w.heap.size, 0, none⟩ = some (u32v s.a) := (X6.get 0 rfl).cell 0
         have c61 : w6.cell? ⟨w.heap.size, 1, none⟩ = some (u32v s.b) := (X6.get 0 rfl).cell 1
         have c62 : w6.cell? ⟨w.heap.size, 2, none⟩ = some (u32v s.c) := (X6.get 0 rfl).cell 2
         have c63 : w6.cell? ⟨w.heap.size, 3, none⟩ = some (u32v s.d) := (X6.get 0 rfl).cell 3
         replace X6 := hide X6; replace y6 := hide y6
         clear o6 hg6)
      | (refine step_app rfl (.tmp 17) (.tmp 18) 31 rfl (w.heap.size + 1) 5 i0 _ 1 1 Tryd.underlying31 hi0 hz0 hz1 hz2 rfl (Nat.succ_pos _) _ 8 ((eight n).map u8v) rfl (World.ownsRow.alloc (World.ownsRow.alloc (unhide o5') (.cells #[u8v 1] 5)) (.cells zC 24)) _ 1 1 (([1] : List UInt8).map u8v) rfl rfl (one_row (Blk.alloc (Blk.new (w := w5) (t := 5) (cs := #[u8v 1]) rfl) (.cells zC 24))) (unhide ho2) (unhide b3) (unhide b4) (sz_alloc (sz_alloc (Nat.succ_le_of_lt l5) (.cells #[u8v 1] 5)) (.cells zC 24)) ?_
         intro v6 w6 o6 hg6
         have X6 : Fx w w6 [(w.heap.size, 24, stC s)] [] [] := Fx.grown (((unhide X5).alloc (.cells #[u8v 1] 5)).alloc (.cells zC 24)) (World.ownsRow.alloc (World.ownsRow.alloc (unhide o5') (.cells #[u8v 1] 5)) (.cells zC 24)) hg6 (Nat.le_succ _) (by simp)
         have y6 : Bs 0 w6.heap.size w6 v6 (eight n ++ [1]) := Bs.of_own0 (own_app o6 (by rw [unhide hl9]))
         obtain ⟨A6, c6, rfl⟩ : ∃ A c, v6 = .slice A (8 + 1) c := by obtain ⟨A, c, e⟩ := y6.form; exact ⟨A, c, by rw [e, unhide hl9]⟩
         have Z6 : Blk w6 (w5.heap.size + 1) 24 zC := Blk.grown (V := ((w5.alloc (.cells #[u8v 1] 5)).alloc (.cells zC 24))) (Blk.new (w := w5.alloc (.cells #[u8v 1] 5)) (t := 24) (cs := zC) (by simp)) (World.ownsRow.alloc (World.ownsRow.alloc (unhide o5') (.cells #[u8v 1] 5)) (.cells zC 24)) hg6 (by decide)
         have n6 : w.heap.size < w5.heap.size + 1 := by omega
         replace Z6 := hide Z6; replace n6 := hide n6
         have l6 : w.heap.size < w6.heap.size := (X6.get 0 rfl).lt
         have c60 : w6.cell? ⟨w.heap.size, 0, none⟩ = some (u32v s.a) := (X6.get 0 rfl).cell 0
         have c61 : w6.cell? ⟨w.heap.size, 1, none⟩ = some (u32v s.b) := (X6.get 0 rfl).cell 1
         have c62 : w6.cell? ⟨w.heap.size, 2, none⟩ = some (u32v s.c) := (X6.get 0 rfl).cell 2
         have c63 : w6.cell? ⟨w.heap.size, 3, none⟩ = some (u32v s.d) := (X6.get 0 rfl).cell 3
         replace X6 := hide X6; replace y6 := hide y6
         clear o6 hg6)
      | (refine step_app rfl (.tmp 17) (.tmp 18) 31 rfl (w.heap.size + 1) 5 i0 _ 1 1 Tryd.underlying31 hi0 hz0 hz1 hz2 rfl (Nat.succ_pos _) _ 8 ((eight n).map u8v) rfl (World.ownsRow.alloc (World.ownsRow.alloc (unhide o5') (.cells zC 24)) (.cells #[u8v 1] 5)) _ 1 1 (([1] : List UInt8).map u8v) rfl rfl (one_row (Blk.new (w := w5.alloc (.cells zC 24)) (g := w5.heap.size + 1) (t := 5) (cs := #[u8v 1]) (by simp))) (unhide ho2) (unhide b3) (unhide b4) (sz_alloc (sz_alloc (Nat.succ_le_of_lt l5) (.cells zC 24)) (.cells #[u8v 1] 5)) ?_
         intro v6 w6 o6 hg6
         have X6 : Fx w w6 [(w.heap.size, 24, stC s)] [] [] := Fx.grown (((unhide X5).alloc (.cells zC 24)).alloc (.cells #[u8v 1] 5)) (World.ownsRow.alloc (World.ownsRow.alloc (unhide o5') (.cells zC 24)) (.cells #[u8v 1] 5)) hg6 (Nat.le_succ _) (by simp)
         have y6 : Bs 0 w6.heap.size w6 v6 (eight n ++ [1]) := Bs.of_own0 (own_app o6 (by rw [unhide hl9]))
         obtain ⟨A6, c6, rfl⟩ : ∃ A c, v6 = .slice A (8 + 1) c := by obtain ⟨A, c, e⟩ := y6.form; exact ⟨A, c, by rw [e, unhide hl9]⟩
         have Z6 : Blk w6 (w5.heap.size) 24 zC := Blk.grown (V := ((w5.alloc (.cells zC 24)).alloc (.cells #[u8v 1] 5))) (Blk.alloc (Blk.new (w := w5) (t := 24) (cs := zC) rfl) (.cells #[u8v 1] 5)) (World.ownsRow.alloc (World.ownsRow.alloc (unhide o5') (.cells zC 24)) (.cells #[u8v 1] 5)) hg6 (by decide)
         have n6 : w.heap.size < w5.heap.size := by omega
         replace Z6 := hide Z6; replace n6 := hide n6
         have l6 : w.heap.size < w6.heap.size := (X6.get 0 rfl).lt
         have c60 : w6.cell? ⟨w.heap.size, 0, none⟩ = some (u32v s.a) := (X6.get 0 rfl).cell 0
         have c61 : w6.cell? ⟨w.heap.size, 1, none⟩ = some (u32v s.b) := (X6.get 0 rfl).cell 1
         have c62 : w6.cell? ⟨w.heap.size, 2, none⟩ = some (u32v s.c) := (X6.get 0 rfl).cell 2
         have c63 : w6.cell? ⟨w.heap.size, 3, none⟩ = some (u32v s.d) := (X6.get 0 rfl).cell 3
         replace X6 := hide X6; replace y6 := hide y6
         clear o6 hg6)
      | (go_at_call 59; refine (unhide hq _ (w6.alloc (.cells zC 24)) (Fx.bl ((unhide X6).alloc (.cells zC 24))) ((unhide y6).to (bl_alloc (Below.refl w6.heap.size w6) (.cells zC 24)))).mono ?_; rintro e w7 ⟨rfl, hb7⟩
         have X7 : Fx w w7 [(w.heap.size, 24, stC s)] [] [] := Fx.call ((unhide X6).alloc (.cells zC 24)) hb7
         have Z7 : Blk w7 (w6.heap.size) 24 zC := Blk.call (V := w6.alloc (.cells zC 24)) (Blk.new (w := w6) (t := 24) (cs := zC) rfl) hb7
         have n7 : w.heap.size < w6.heap.size := l6
         have z70 : w7.cell? ⟨w6.heap.size, 0, none⟩ = some (.int .u32 0) := Z7.cell 0
         have f70 : w7.frozen? ⟨w6.heap.size, 0, none⟩ = false := Z7.frozen 0
         have z71 : w7.cell? ⟨w6.heap.size, 1, none⟩ = some (.int .u32 0) := Z7.cell 1
         have f71 : w7.frozen? ⟨w6.heap.size, 1, none⟩ = false := Z7.frozen 1
         have z72 : w7.cell? ⟨w6.heap.size, 2, none⟩ = some (.int .u32 0) := Z7.cell 2
         have f72 : w7.frozen? ⟨w6.heap.size, 2, none⟩ = false := Z7.frozen 2
         have z73 : w7.cell? ⟨w6.heap.size, 3, none⟩ = some (.int .u32 0) := Z7.cell 3
         have f73 : w7.frozen? ⟨w6.heap.size, 3, none⟩ = false := Z7.frozen 3
         have m70 : w.heap.size ≠ w6.heap.size := Nat.ne_of_lt n7
         have m71 : w6.heap.size ≠ w.heap.size := Nat.ne_of_gt n7
         replace Z7 := hide Z7; replace n7 := hide n7
         have l7 : w.heap.size < w7.heap.size := (X7.get 0 rfl).lt
         have c70 : w7.cell? ⟨w.heap.size, 0, none⟩ = some (u32v s.a) := (X7.get 0 rfl).cell 0
         have c71 : w7.cell? ⟨w.heap.size, 1, none⟩ = some (u32v s.b) := (X7.get 0 rfl).cell 1
         have c72 : w7.cell? ⟨w.heap.size, 2, none⟩ = some (u32v s.c) := (X7.get 0 rfl).cell 2
         have c73 : w7.cell? ⟨w.heap.size, 3, none⟩ = some (u32v s.d) := (X7.get 0 rfl).cell 3
         replace X7 := hide X7; clear hb7)
      | (go_at_call 59; refine (unhide hq _ w6 (Fx.bl (unhide X6)) (unhide y6)).mono ?_; rintro e w7 ⟨rfl, hb7⟩
         have X7 : Fx w w7 [(w.heap.size, 24, stC s)] [] [] := Fx.call (unhide X6) hb7
         (first | (have Z7 : Blk w7 (W.heap.size) 24 zC := Blk.call (unhide Z6) hb7
                   have n7 : w.heap.size < W.heap.size := unhide n6
                   have z70 : w7.cell? ⟨W.heap.size, 0, none⟩ = some (.int .u32 0) := Z7.cell 0
                   have f70 : w7.frozen? ⟨W.heap.size, 0, none⟩ = false := Z7.frozen 0
                   have z71 : w7.cell? ⟨W.heap.size, 1, none⟩ = some (.int .u32 0) := Z7.cell 1
                   have f71 : w7.frozen? ⟨W.heap.size, 1, none⟩ = false := Z7.frozen 1
                   have z72 : w7.cell? ⟨W.heap.size, 2, none⟩ = some (.int .u32 0) := Z7.cell 2
                   have f72 : w7.frozen? ⟨W.heap.size, 2, none⟩ = false := Z7.frozen 2
                   have z73 : w7.cell? ⟨W.heap.size, 3, none⟩ = some (.int .u32 0) := Z7.cell 3
                   have f73 : w7.frozen? ⟨W.heap.size, 3, none⟩ = false := Z7.frozen 3
                   have m70 : w.heap.size ≠ W.heap.size := Nat.ne_of_lt n7
                   have m71 : W.heap.size ≠ w.heap.size := Nat.ne_of_gt n7
                   replace Z7 := hide Z7; replace n7 := hide n7) | skip)
         (first | (have Z7 : Blk w7 (W.heap.size + 1) 24 zC := Blk.call (unhide Z6) hb7
                   have n7 : w.heap.size < W.heap.size + 1 := unhide n6
                   have z70 : w7.cell? ⟨W.heap.size + 1, 0, none⟩ = some (.int .u32 0) := Z7.cell 0
                   have f70 : w7.frozen? ⟨W.heap.size + 1, 0, none⟩ = false := Z7.frozen 0
                   have z71 : w7.cell? ⟨W.heap.size + 1, 1, none⟩ = some (.int .u32 0) := Z7.cell 1
                   have f71 : w7.frozen? ⟨W.heap.size + 1, 1, none⟩ = false := Z7.frozen 1
                   have z72 : w7.cell? ⟨W.heap.size + 1, 2, none⟩ = some (.int .u32 0) := Z7.cell 2
                   have f72 : w7.frozen? ⟨W.heap.size + 1, 2, none⟩ = false := Z7.frozen 2
                   have z73 : w7.cell? ⟨W.heap.size + 1, 3, none⟩ = some (.int .u32 0) := Z7.cell 3
                   have f73 : w7.frozen? ⟨W.heap.size + 1, 3, none⟩ = false := Z7.frozen 3
                   have m70 : w.heap.size ≠ W.heap.size + 1 := Nat.ne_of_lt n7
                   have m71 : W.heap.size + 1 ≠ w.heap.size := Nat.ne_of_gt n7
                   replace Z7 := hide Z7; replace n7 := hide n7) | skip)
         (first | (have Z7 : Blk w7 (w5.heap.size) 24 zC := Blk.call (unhide Z6) hb7
                   have n7 : w.heap.size < w5.heap.size := unhide n6
                   have z70 : w7.cell? ⟨w5.heap.size, 0, none⟩ = some (.int .u32 0) := Z7.cell 0
                   have f70 : w7.frozen? ⟨w5.heap.size, 0, none⟩ = false := Z7.frozen 0
                   have z71 : w7.cell? ⟨w5.heap.size, 1, none⟩ = some (.int .u32 0) := Z7.cell 1
                   have f71 : w7.frozen? ⟨w5.heap.size, 1, none⟩ = false := Z7.frozen 1
                   have z72 : w7.cell? ⟨w5.heap.size, 2, none⟩ = some (.int .u32 0) := Z7.cell 2
                   have f72 : w7.frozen? ⟨w5.heap.size, 2, none⟩ = false := Z7.frozen 2
                   have z73 : w7.cell? ⟨w5.heap.size, 3, none⟩ = some (.int .u32 0) := Z7.cell 3
                   have f73 : w7.frozen? ⟨w5.heap.size, 3, none⟩ = false := Z7.frozen 3
                   have m70 : w.heap.size ≠ w5.heap.size := Nat.ne_of_lt n7
                   have m71 : w5.heap.size ≠ w.heap.size := Nat.ne_of_gt n7
                   replace Z7 := hide Z7; replace n7 := hide n7) | skip)
         (first | (have Z7 : Blk w7 (w5.heap.size + 1) 24 zC := Blk.call (unhide Z6) hb7
                   have n7 : w.heap.size < w5.heap.size + 1 := unhide n6
                   have z70 : w7.cell? ⟨w5.heap.size + 1, 0, none⟩ = some (.int .u32 0) := Z7.cell 0
                   have f70 : w7.frozen? ⟨w5.heap.size + 1, 0, none⟩ = false := Z7.frozen 0
                   have z71 : w7.cell? ⟨w5.heap.size + 1, 1, none⟩ = some (.int .u32 0) := Z7.cell 1
                   have f71 : w7.frozen? ⟨w5.heap.size + 1, 1, none⟩ = false := Z7.frozen 1
                   have z72 : w7.cell? ⟨w5.heap.size + 1, 2, none⟩ = some (.int .u32 0) := Z7.cell 2
                   have f72 : w7.frozen? ⟨w5.heap.size + 1, 2, none⟩ = false := Z7.frozen 2
                   have z73 : w7.cell? ⟨w5.heap.size + 1, 3, none⟩ = some (.int .u32 0) := Z7.cell 3
                   have f73 : w7.frozen? ⟨w5.heap.size + 1, 3, none⟩ = false := Z7.frozen 3
                   have m70 : w.heap.size ≠ w5.heap.size + 1 := Nat.ne_of_lt n7
                   have m71 : w5.heap.size + 1 ≠ w.heap.size := Nat.ne_of_gt n7
                   replace Z7 := hide Z7; replace n7 := hide n7) | skip)
         have l7 : w.heap.size < w7.heap.size := (X7.get 0 rfl).lt
         have c70 : w7.cell? ⟨w.heap.size, 0, none⟩ = some (u32v s.a) := (X7.get 0 rfl).cell 0
         have c71 : w7.cell? ⟨w.heap.size, 1, none⟩ = some (u32v s.b) := (X7.get 0 rfl).cell 1
         have c72 : w7.cell? ⟨w.heap.size, 2, none⟩ = some (u32v s.c) := (X7.get 0 rfl).cell 2
         have c73 : w7.cell? ⟨w.heap.size, 3, none⟩ = some (u32v s.d) := (X7.get 0 rfl).cell 3
         replace X7 := hide X7; clear hb7))
    all_goals
      go_wp2_with (fail)
      go_meet
      refine ⟨_, rfl, rfl, hide ?_⟩
      first
      | with_reducible exact Fx.sub ((unhide X7).newB w7.heap.size rfl (stC S') 24) (by simp) (by simp) (by simp)
      | with_reducible exact Fx.put4 (unhide X7) (unhide Z7) (unhide n7)
  case rest =>
    obtain ⟨g, rfl, rfl, hcut⟩ := hcut
    have d0 : wc.cell? ⟨g, 0, none⟩ = some (u32v S'.a) := ((unhide hcut).get 0 rfl).cell 0
    have d1 : wc.cell? ⟨g, 1, none⟩ = some (u32v S'.b) := ((unhide hcut).get 0 rfl).cell 1
    have d2 : wc.cell? ⟨g, 2, none⟩ = some (u32v S'.c) := ((unhide hcut).get 0 rfl).cell 2
    have d3 : wc.cell? ⟨g, 3, none⟩ = some (u32v S'.d) := ((unhide hcut).get 0 rfl).cell 3
    go_wp2_with (first
      | (go_at_call 76; refine (unhide hs _ (unhide hcut).bl).mono ?_; rintro e w9 ⟨A9, c9, rfl, o9, hb9⟩)
      | fail)
    go_ret2
    exact ⟨A9, c9, rfl, (ownsRow_mono o9 (unhide hcut).bl.size), bl_call (unhide hcut).bl hb9⟩
end Go.Proofs.YthkccpemgmpadaaDoor

namespace Go.Proofs.YthkccpemgmpadaaDoor
set_option maxRecDepth 100000
open Go.RowKit

end Go.Proofs.YthkccpemgmpadaaDoor

namespace Go.Proofs.YthkccpemgmpadaaDoor
set_option maxRecDepth 100000
open Go.RowKit

section
set_option maxHeartbeats 400000 in
theorem Stream18_neg (s : St) (n : Nx) (z : Int) (w : World) (hz : z < 0) :
    Calls Tryd.prog 58 #[stV s, u64v n, .int .i64 z] w fun e w' => e = .returned (.tuple #[.slice none 0 0, .int .i64 1]) ∧ Below w.heap.size w w' := by
  go_enter Tryd.func58, Tryd.ntmps58
  go_wp2
  go_ret2
  exact ⟨rfl, by (repeat (first | with_reducible exact Below.refl _ _ | with_reducible assumption | with_reducible refine Below.drew ?_ | with_reducible refine bl_alloc ?_ _ | with_reducible refine bl_call ?_ (by assumption) | (focus (with_reducible refine Below.setCell ?_ ?_ _; rotate_left; focus (first | omega | (simp <;> omega)))) | fail))⟩
set_option maxHeartbeats 400000 in
theorem Stream18_long (s : St) (n : Nx) (z : Int) (w : World) (hz : 65536 < z) :
    Calls Tryd.prog 58 #[stV s, u64v n, .int .i64 z] w fun e w' => e = .returned (.tuple #[.slice none 0 0, .int .i64 3]) ∧ Below w.heap.size w w' := by
  go_enter Tryd.func58, Tryd.ntmps58
  go_wp2
  go_ret2
  exact ⟨rfl, by (repeat (first | with_reducible exact Below.refl _ _ | with_reducible assumption | with_reducible refine Below.drew ?_ | with_reducible refine bl_alloc ?_ _ | with_reducible refine bl_call ?_ (by assumption) | (focus (with_reducible refine Below.setCell ?_ ?_ _; rotate_left; focus (first | omega | (simp <;> omega)))) | fail))⟩
set_option maxHeartbeats 400000 in
theorem Tag20_long (lo : Nat) (s : St) (n : Nx) (v : Value) (l : List UInt8) (w : World) (h : Bs lo w.heap.size w v l) (hl : 65536 < l.length) :
    Calls Tryd.prog 39 #[stV s, u64v n, v] w fun e w' => e = .returned (.tuple #[stV zS, .int .i64 3]) ∧ Below w.heap.size w w' := by
  obtain ⟨A, c, rfl, _⟩ := h
  have h1 : (65536 : Int) < (l.length : Int) := by omega
  have hZ : Blk ((w.alloc (.cells (stC s) 24)).alloc (.cells zC 24)) (w.heap.size + 1) 24 zC := Blk.new (by simp)
  have hb : Below w.heap.size w ((w.alloc (.cells (stC s) 24)).alloc (.cells zC 24)) := bl_alloc (bl_alloc (Below.refl _ _) _) _
  replace hZ := hide hZ; replace hb := hide hb
  clear hl
  go_enter Tryd.func39, Tryd.ntmps39
  go_wp2_with (first
    | (refine wpList_store_row rfl 24 (.tmp 6) (.tmp 11) rfl (w.heap.size + 1) zC rfl rfl 24 zC (unhide hZ) size24 rfl (stC_one zS) ?_)
    | fail)
  exact ret_st2 rfl (w.heap.size + 1) zS _ rfl rfl ((unhide hZ).row _) rfl ⟨rfl, bl_row (unhide hb) _ (by omega)⟩
end
end Go.Proofs.YthkccpemgmpadaaDoor

namespace Go.Proofs.YthkccpemgmpadaaDoor
set_option maxRecDepth 100000
open Go.RowKit

/-- A cell of a row of the call's own is written. -/
theorem own_put {w : World} {base g n cap k : Nat} {e : TypeId} {xs : List Value} (h : w.ownsRow base e 1 (.slice (some ⟨g, 0, none⟩) n cap) n xs) (u : Value) :
    (w.setCell ⟨g, k, none⟩ u).ownsRow base e 1 (.slice (some ⟨g, 0, none⟩) n cap) n (xs.set k u) := by
  obtain ⟨h1, h2⟩ := h
  refine ⟨by rw [List.length_set]; exact h1, ?_⟩
  rcases h2 with ⟨h2, _⟩ | ⟨g', cap', cur, hv, hb, hh, r1, r2, r3, r4⟩
  · cases h2
  · injection hv with e1 _ e3
    injection e1 with e1
    injection e1 with e1
    subst e1 e3
    refine .inr ⟨g, cap, cur.setIfInBounds k u, rfl, hb, heap_setCell_same w g k cur e u hh, r1, r2, by simpa using r3, ?_⟩
    rw [Array.toList_setIfInBounds, List.take_set, r4]
theorem own_pos {w : World} {base n : Nat} {e : TypeId} {A : Option Addr} {c : Nat} {xs : List Value} (h : w.ownsRow base e 1 (.slice A n c) n xs) (h0 : 0 < n) :
    ∃ g cur, A = some ⟨g, 0, none⟩ ∧ base ≤ g ∧ Blk w g e cur ∧ n ≤ cur.size ∧ ∀ k, k < n → cur[k]? = xs[k]? := by
  obtain ⟨h1, h2⟩ := h
  rcases h2 with ⟨h2, h3⟩ | ⟨g', cap', cur, hv, hb, hh, r1, r2, r3, r4⟩
  · omega
  · injection hv with e1 _ e3
    refine ⟨g', cur, e1, hb, hh, by omega, fun k hk => ?_⟩
    subst r4
    rw [List.getElem?_take, if_pos (by omega), Array.getElem?_toList]

theorem ofInt_u8 (x : UInt8) : BitVec.ofInt IntKind.u8.bits (n8 x) = x.toBitVec := by
  show BitVec.ofInt 8 (x.toNat : Int) = x.toBitVec
  rw [BitVec.ofInt_natCast, ← UInt8.toNat_toBitVec, BitVec.ofNat_toNat, BitVec.setWidth_eq]
theorem q8_xor (x y : UInt8) : bits .xor .u8 (n8 x) (n8 y) = n8 (x ^^^ y) := by
  show IntKind.u8.wrap _ = _
  rw [ofInt_u8, ofInt_u8]
  show IntKind.u8.wrap (((x ^^^ y).toNat : Nat) : Int) = ((x ^^^ y).toNat : Int)
  have := (x ^^^ y).toNat_lt
  rw [IntKind.wrap_u8']
  omega

/-- The first 'k' octets exclusive or the text's, the others as they were. -/
def mixH (st t : List UInt8) (k : Nat) : List UInt8 := (List.zipWith (· ^^^ ·) st t).take k ++ st.drop k
theorem mixH_len {st t : List UInt8} (h : st.length = t.length) (k : Nat) : (mixH st t k).length = t.length := by
  unfold mixH; simp; omega
theorem mixH_zero (st t : List UInt8) : mixH st t 0 = st := by simp [mixH]
theorem mixH_get {st t : List UInt8} (h : st.length = t.length) {k : Nat} (hk : k < st.length) : (mixH st t k)[k]? = some st[k] := by
  unfold mixH
  rw [List.getElem?_append_right (by simp; omega)]
  have e : ((List.zipWith (· ^^^ ·) st t).take k).length = k := by simp; omega
  rw [e, Nat.sub_self, List.getElem?_drop, Nat.add_zero, List.getElem?_eq_getElem hk]
theorem mixH_set {st t : List UInt8} (h : st.length = t.length) {k : Nat} (hk : k < st.length) : (mixH st t k).set k (st[k] ^^^ t[k]'(by omega)) = mixH st t (k + 1) := by
  have e : ((List.zipWith (· ^^^ ·) st t).take k).length = k := by simp; omega
  have hz : k < (List.zipWith (· ^^^ ·) st t).length := by simp; omega
  unfold mixH
  rw [List.set_append_right _ _ (by omega), e, Nat.sub_self, List.drop_eq_getElem_cons hk, List.set_cons_zero]
  rw [List.take_add_one, List.getElem?_eq_getElem hz]
  simp
theorem mixH_all {st t : List UInt8} (h : st.length = t.length) : mixH st t t.length = List.zipWith (· ^^^ ·) t st := by
  unfold mixH
  rw [List.take_of_length_le (by simp; omega), List.drop_of_length_le (by omega), List.append_nil]
  rw [List.zipWith_comm]
  congr 1
  funext x y
  exact UInt8.xor_comm _ _
theorem mixH_hid (s : St) (n : Nx) (t : List UInt8) : mixH (streamF s n t.length) t t.length = hidF s n t := mixH_all (stream_len _ _ _)
section
attribute [local go_sem] q8_xor
set_option maxHeartbeats 1000000 in
theorem turned_any (s : St) (n : Nx) (v : Value) (t : List UInt8) (w : World) (ht : Tab w) (h : Bs 0 w.heap.size w v t) (hk : t.length ≤ 65536) :
    Calls Tryd.prog 38 #[stV s, u64v n, v] w fun e w' => ∃ A c, e = .returned (.tuple #[.slice A t.length c, .int .i64 0]) ∧ OwnB w' w.heap.size (.slice A t.length c) (hidF s n t) ∧ Below w.heap.size w w' := by
  have hB : Blk (w.alloc (.cells (stC s) 24)) w.heap.size 24 (stC s) := Blk.new rfl
  have hb : Below w.heap.size w (w.alloc (.cells (stC s) 24)) := bl_alloc (Below.refl _ _) _
  have hs := fun W (hb : Below w.heap.size w W) => Stream_good s n t.length W (ht.below hb (Nat.le_refl _)) hk
  have hlen := stream_len s n t.length
  have hF := mixH_hid s n t
  have hG := hid_len s n t
  generalize streamF s n t.length = st at *
  rw [← hF]
  rw [← hF] at hG
  have m0 := mixH_zero st t
  have mg := fun k (hk : k < st.length) => mixH_get hlen hk
  have ms := fun k (hk : k < st.length) => mixH_set hlen hk
  have ml := mixH_len hlen
  have hx : ∀ W, Below w.heap.size w W → ∀ k (hk : k < t.length), ∃ b off c, v = .slice (some ⟨b, off, none⟩) t.length c ∧ W.cell? ⟨b, off + k, none⟩ = some (u8v t[k]) := fun W hb k hk => by
    obtain ⟨A, c, e, _, _, h3⟩ := h
    obtain ⟨b, off, rfl, _, hb', hc⟩ := h3 (by omega)
    exact ⟨b, off, c, e, (hb.cell (p := ⟨b, off + k, none⟩) hb').trans (hc k hk)⟩
  obtain ⟨A, c, rfl⟩ := h.form
  obtain ⟨m, hm⟩ : ∃ m, m = t.length := ⟨_, rfl⟩
  have hm0 : m ≤ 65536 := by omega
  rw [← hm] at hs hlen
  replace hm := hide hm
  replace hB := hide hB; replace hb := hide hb; replace hs := hide hs; replace hlen := hide hlen; replace hF := hide hF; replace hG := hide hG; replace m0 := hide m0; replace mg := hide mg; replace ms := hide ms; replace ml := hide ml; replace hx := hide hx
  clear h hk ht
  rw [← unhide hm]
  go_enter Tryd.func38, Tryd.ntmps38
  go_upto_region 1 with (fail)
  generalize hW : World.alloc w _ = W at *
  clear hW
  have l0 := (unhide hB).lt
  have c00 : W.cell? ⟨w.heap.size, 0, none⟩ = some (u32v s.a) := (unhide hB).cell 0
  have c01 : W.cell? ⟨w.heap.size, 1, none⟩ = some (u32v s.b) := (unhide hB).cell 1
  have c02 : W.cell? ⟨w.heap.size, 2, none⟩ = some (u32v s.c) := (unhide hB).cell 2
  have c03 : W.cell? ⟨w.heap.size, 3, none⟩ = some (u32v s.d) := (unhide hB).cell 3
  go_wp2_with (first
    | (go_at_call 58; refine (unhide hs _ (unhide hb)).mono ?_; rintro e w2 ⟨A2, c2, rfl, o2, hb2⟩
       have b2 : Below w.heap.size w w2 := bl_call (unhide hb) hb2
       have o2' : w2.ownsRow w.heap.size 5 1 (.slice A2 m c2) m ((mixH st t 0).map u8v) := by rw [unhide m0]; exact own_n (ownsRow_mono o2 (unhide hb).size) (unhide hlen)
       replace b2 := hide b2; replace o2' := hide o2'
       clear o2 hb2)
    | fail)
  go_loopw [10, 11, 25] (fun _ _ i wr => ∃ k : Nat, k ≤ m ∧ i = .int .i64 k ∧ Hid (wr.ownsRow w.heap.size 5 1 (.slice A2 m c2) m ((mixH st t k).map u8v)) ∧ Hid (Below w.heap.size w wr)) (fun _ _ i _ => m - (intOf i).toNat)
  case atStart => exact ⟨0, by omega, rfl, o2', b2⟩
  case round =>
    obtain ⟨k, hkm, rfl, o, b⟩ := hrel
    by_cases hlt : k < m
    · have k1 : (k : Int) < (m : Int) := by omega
      have hkt : k < t.length := by rw [← unhide hm]; exact hlt
      have hks : k < st.length := by rw [unhide hlen]; exact hlt
      obtain ⟨bq, off, cq, hq, hc⟩ := unhide hx wr (unhide b) k hkt
      injection hq with hq1 hq2 hq3
      subst hq1 hq3
      clear hq2
      obtain ⟨g, cur, hA, hbg, hBk, hcur, hcell⟩ := own_pos (unhide o) (by omega)
      subst hA
      have gl := hBk.lt
      have cc : wr.cell? ⟨g, k, none⟩ = some (u8v st[k]) := by
        rw [hBk.cell, hcell k hlt, List.getElem?_map, unhide mg k hks]; rfl
      have cf : wr.frozen? ⟨g, k, none⟩ = false := hBk.frozen k
      have hset := unhide ms k hks
      have ho4 := own_put (k := k) (unhide o) (u8v (st[k] ^^^ t[k]))
      rw [← List.map_set, hset] at ho4
      have hb4 := (unhide b).setCell (p := ⟨g, k, none⟩) hbg (u8v (st[k] ^^^ t[k]))
      generalize st[k] = x at *
      generalize t[k] = y at *
      replace hset := hide hset; replace ho4 := hide ho4; replace hb4 := hide hb4; replace hBk := hide hBk; replace hcell := hide hcell; replace hcur := hide hcur; replace hkt := hide hkt; replace hks := hide hks; replace hbg := hide hbg
      go_wp2_with (fail)
      go_roundw
      case rel => exact ⟨k + 1, by omega, by go_num, ho4, hb4⟩
      case measure => simp [intOf]; omega
    · obtain rfl : k = m := by omega
      go_wp2_with (fail)
      go_ret2
      refine ⟨A2, c2, rfl, ?_, unhide b⟩
      have := unhide o
      unfold OwnB
      rw [unhide ml, ← unhide hm]
      exact this
end
end Go.Proofs.YthkccpemgmpadaaDoor

namespace Go.Proofs.YthkccpemgmpadaaDoor
set_option maxRecDepth 100000
open Go.RowKit

/-! ### boxes and rings, by value and as cells -/
abbrev bxC (n : Nx) (v : Value) (t : St) : Array Value := #[u64v n, v, u32v t.a, u32v t.b, u32v t.c, u32v t.d]
abbrev bxV (n : Nx) (v : Value) (t : St) : Value := .agg (bxC n v t)
abbrev rgC (s : St) (n : Nx) : Array Value := #[u32v s.a, u32v s.b, u32v s.c, u32v s.d, u64v n]
abbrev rgV (s : St) (n : Nx) : Value := .agg (rgC s n)
abbrev zBx : Array Value := #[.int .u64 0, .slice none 0 0, .int .u32 0, .int .u32 0, .int .u32 0, .int .u32 0]
abbrev zRg : Array Value := #[.int .u32 0, .int .u32 0, .int .u32 0, .int .u32 0, .int .u64 0]
theorem size30 : (Tryd.prog.info? 58).map (·.size) = some 6 := by kernel_rfl
theorem size27 : (Tryd.prog.info? 27).map (·.size) = some 5 := by kernel_rfl
theorem ret_br3 {fn : Func} {p q u : Tmp} {R : Ending → World → Prop} {a : Act} {w : World} (h : fn.results = #[.cell p 58, .cell q 27, .tmp u]) (g g' : Nat) (cs ds : Array Value) (v : Value) (hcs : cs.size = 6) (hds : ds.size = 5)
    (hp : a.tmps.getD p undef = .pointer (some ⟨g, 0, none⟩)) (hq : a.tmps.getD q undef = .pointer (some ⟨g', 0, none⟩)) (hu : a.tmps.getD u undef = v) (hg : Blk w g 58 cs) (hg' : Blk w g' 27 ds) (hd : a.defers = []) (hR : R (.returned (.tuple #[.agg cs, .agg ds, v])) w) : bodyPost Tryd.prog fn R .ret a w := by
  refine bodyPost_ret (v := .tuple #[.agg cs, .agg ds, v]) ?_ hd hR
  have hl := run_loadVar_row (P := Tryd.prog) w g 58 58 cs (0, 0) _ hg Tryd.underlying58 rfl (by rw [hcs]; exact size30)
  have hl' := run_loadVar_row (P := Tryd.prog) w g' 27 27 ds (0, 0) _ hg' Tryd.underlying27 rfl (by rw [hds]; exact size27)
  have hp' : a.tmps[p]?.getD undef = .pointer (some ⟨g, 0, none⟩) := by simpa using hp
  have hq' : a.tmps[q]?.getD undef = .pointer (some ⟨g', 0, none⟩) := by simpa using hq
  have hu' : a.tmps[u]?.getD undef = v := by simpa using hu
  simp [results, h, hp', hq', hu', asAddr, Result.andThen, hl, hl']
theorem ret_b2 {fn : Func} {p u : Tmp} {R : Ending → World → Prop} {a : Act} {w : World} (h : fn.results = #[.cell p 58, .tmp u]) (g : Nat) (cs : Array Value) (v : Value) (hcs : cs.size = 6)
    (hp : a.tmps.getD p undef = .pointer (some ⟨g, 0, none⟩)) (hu : a.tmps.getD u undef = v) (hg : Blk w g 58 cs) (hd : a.defers = []) (hR : R (.returned (.tuple #[.agg cs, v])) w) : bodyPost Tryd.prog fn R .ret a w := by
  refine bodyPost_ret (v := .tuple #[.agg cs, v]) ?_ hd hR
  rw [results_cell_tmp h, hp, hu]
  have hl := run_loadVar_row (P := Tryd.prog) w g 58 58 cs (0, 0) _ hg Tryd.underlying58 rfl (by rw [hcs]; exact size30)
  simp [asAddr, Result.andThen, hl]
end Go.Proofs.YthkccpemgmpadaaDoor

namespace Go.Proofs.YthkccpemgmpadaaDoor
set_option maxRecDepth 100000
open Go.RowKit

theorem bx_one {n : Nx} {A : Option Addr} {m c : Nat} {t : St} : (bxC n (.slice A m c) t).all (·.oneCell') = true := by simp [Value.oneCell']
theorem rg_one {s : St} {n : Nx} : (rgC s n).all (·.oneCell') = true := by simp [Value.oneCell']
theorem zbx_one : zBx.all (·.oneCell') = true := by simp [Value.oneCell']
theorem zrg_one : zRg.all (·.oneCell') = true := by simp [Value.oneCell']
theorem bl_row2 {B g g' : Nat} {a w : World} (h : Below B a w) (C C' : Array Value) (hg : B ≤ g) (hg' : B ≤ g') : Below B a ((w.setRow g C).setRow g' C') := bl_row (bl_row h C hg) C' hg'
set_option maxHeartbeats 1000000 in
theorem Seal_long (lo : Nat) (s : St) (n : Nx) (v : Value) (l : List UInt8) (w : World) (h : Bs lo w.heap.size w v l) (hl : 65536 < l.length) :
    Calls Tryd.prog 25 #[rgV s n, v] w fun e w' => e = .returned (.tuple #[.agg zBx, .agg zRg, .int .i64 3]) ∧ Below w.heap.size w w' := by
  obtain ⟨A, c, rfl⟩ := h.form
  have h1 : (65536 : Int) < (l.length : Int) := by omega
  have X0 : Fx w (((w.alloc (.cells (rgC s n) 27)).alloc (.cells zBx 58)).alloc (.cells zRg 27)) [(w.heap.size, 27, rgC s n), (w.heap.size + 1, 58, zBx), (w.heap.size + 1 + 1, 27, zRg)] [] [] := (((Fx.nil w).newB w.heap.size rfl (rgC s n) 27).newB (w.heap.size + 1) (by simp) zBx 58).newB (w.heap.size + 1 + 1) (by simp) zRg 27
  replace X0 := hide X0
  clear h hl
  go_enter Tryd.func25, Tryd.ntmps25
  go_upto_region 1 with (fail)
  generalize hW : World.alloc (World.alloc (World.alloc w _) _) _ = W at *
  clear hW
  have B1 := (unhide X0).get 1 rfl
  have B2 := (unhide X0).get 2 rfl
  have hb := (unhide X0).bl
  have B2' : Blk (W.setRow (w.heap.size + 1) zBx) (w.heap.size + 1 + 1) 27 zRg := B2.row_other zBx (by omega)
  have F1 : Blk ((W.setRow (w.heap.size + 1) zBx).setRow (w.heap.size + 1 + 1) zRg) (w.heap.size + 1) 58 zBx := (B1.row zBx).row_other zRg (by omega)
  have F2 : Blk ((W.setRow (w.heap.size + 1) zBx).setRow (w.heap.size + 1 + 1) zRg) (w.heap.size + 1 + 1) 27 zRg := B2'.row zRg
  replace B1 := hide B1; replace B2' := hide B2'; replace F1 := hide F1; replace F2 := hide F2; replace hb := hide hb
  clear B2
  go_wp2_with (first
    | (refine wpList_store_row rfl 58 (.tmp 4) (.tmp 14) rfl (w.heap.size + 1) zBx rfl rfl 58 zBx (unhide B1) size30 rfl zbx_one ?_)
    | (refine wpList_store_row rfl 27 (.tmp 5) (.tmp 15) rfl (w.heap.size + 1 + 1) zRg rfl rfl 27 zRg (unhide B2') size27 rfl zrg_one ?_)
    | fail)
  exact ret_br3 rfl (w.heap.size + 1) (w.heap.size + 1 + 1) zBx zRg (.int .i64 3) rfl rfl rfl rfl rfl (unhide F1) (unhide F2) rfl ⟨rfl, bl_row2 (unhide hb) _ _ (by omega) (by omega)⟩
theorem full_eq : n64 18446744073709551615#64 = (18446744073709551615 : Int) := by decide
theorem full_ne {n : Nx} (h : n ≠ 18446744073709551615#64) : ¬ n64 n = (18446744073709551615 : Int) := by
  intro e
  rw [← full_eq] at e
  exact h (n64_inj e)
set_option maxHeartbeats 1000000 in
theorem Seal_full (lo : Nat) (s : St) (v : Value) (l : List UInt8) (w : World) (h : Bs lo w.heap.size w v l) (hl : l.length ≤ 65536) :
    Calls Tryd.prog 25 #[rgV s 18446744073709551615#64, v] w fun e w' => e = .returned (.tuple #[.agg zBx, .agg zRg, .int .i64 6]) ∧ Below w.heap.size w w' := by
  obtain ⟨A, c, rfl⟩ := h.form
  have h1 : ¬ (65536 : Int) < (l.length : Int) := by omega
  have hf := full_eq
  generalize (18446744073709551615#64 : Nx) = n at *
  have X0 : Fx w (((w.alloc (.cells (rgC s n) 27)).alloc (.cells zBx 58)).alloc (.cells zRg 27)) [(w.heap.size, 27, rgC s n), (w.heap.size + 1, 58, zBx), (w.heap.size + 1 + 1, 27, zRg)] [] [] := (((Fx.nil w).newB w.heap.size rfl (rgC s n) 27).newB (w.heap.size + 1) (by simp) zBx 58).newB (w.heap.size + 1 + 1) (by simp) zRg 27
  replace X0 := hide X0
  clear h hl
  go_enter Tryd.func25, Tryd.ntmps25
  go_upto_region 1 with (fail)
  generalize hW : World.alloc (World.alloc (World.alloc w _) _) _ = W at *
  clear hW
  have c4 : W.cell? ⟨w.heap.size, 4, none⟩ = some (u64v n) := ((unhide X0).get 0 rfl).cell 4
  have B1 := (unhide X0).get 1 rfl
  have B2 := (unhide X0).get 2 rfl
  have hb := (unhide X0).bl
  have B2' : Blk (W.setRow (w.heap.size + 1) zBx) (w.heap.size + 1 + 1) 27 zRg := B2.row_other zBx (by omega)
  have F1 : Blk ((W.setRow (w.heap.size + 1) zBx).setRow (w.heap.size + 1 + 1) zRg) (w.heap.size + 1) 58 zBx := (B1.row zBx).row_other zRg (by omega)
  have F2 : Blk ((W.setRow (w.heap.size + 1) zBx).setRow (w.heap.size + 1 + 1) zRg) (w.heap.size + 1 + 1) 27 zRg := B2'.row zRg
  replace B1 := hide B1; replace B2' := hide B2'; replace F1 := hide F1; replace F2 := hide F2; replace hb := hide hb
  clear B2
  go_wp2_with (first
    | (refine wpList_store_row rfl 58 (.tmp 4) (.tmp 19) rfl (w.heap.size + 1) zBx rfl rfl 58 zBx (unhide B1) size30 rfl zbx_one ?_)
    | (refine wpList_store_row rfl 27 (.tmp 5) (.tmp 20) rfl (w.heap.size + 1 + 1) zRg rfl rfl 27 zRg (unhide B2') size27 rfl zrg_one ?_)
    | fail)
  exact ret_br3 rfl (w.heap.size + 1) (w.heap.size + 1 + 1) zBx zRg (.int .i64 6) rfl rfl rfl rfl rfl (unhide F1) (unhide F2) rfl ⟨rfl, bl_row2 (unhide hb) _ _ (by omega) (by omega)⟩
end Go.Proofs.YthkccpemgmpadaaDoor

namespace Go.Proofs.YthkccpemgmpadaaDoor
set_option maxRecDepth 100000
open Go.RowKit

theorem wrap_add1 (x : Nx) : IntKind.u64.wrap (n64 x + 1) = n64 (x + 1#64) := by rw [IntKind.wrap_u64]; exact q_add1 x
/-- A box and a ring are written. -/
theorem two_put {w0 V : World} {g1 g2 base : Nat} {v : Value} {l : List UInt8} {a0 a1 a2 a3 a4 a5 b0 b1 b2 b3 b4 x0 x1 x2 x3 x4 x5 y0 y1 y2 y3 y4 : Value} (h1 : Blk V g1 58 #[a0, a1, a2, a3, a4, a5]) (h2 : Blk V g2 27 #[b0, b1, b2, b3, b4]) (hne : g1 ≠ g2) (ho : OwnB V base v l) (hb : Below w0.heap.size w0 V) (hg1 : w0.heap.size ≤ g1) (hg2 : w0.heap.size ≤ g2) :
    let V' := (((((((((((V.setCell ⟨g1, 0, none⟩ x0).setCell ⟨g1, 1, none⟩ x1).setCell ⟨g1, 2, none⟩ x2).setCell ⟨g1, 3, none⟩ x3).setCell ⟨g1, 4, none⟩ x4).setCell ⟨g1, 5, none⟩ x5).setCell ⟨g2, 0, none⟩ y0).setCell ⟨g2, 1, none⟩ y1).setCell ⟨g2, 2, none⟩ y2).setCell ⟨g2, 3, none⟩ y3).setCell ⟨g2, 4, none⟩ y4).drew
    Blk V' g1 58 #[x0, x1, x2, x3, x4, x5] ∧ Blk V' g2 27 #[y0, y1, y2, y3, y4] ∧ OwnB V' base v l ∧ Below w0.heap.size w0 V' := by
  have A6 : Blk ((((((V.setCell ⟨g1, 0, none⟩ x0).setCell ⟨g1, 1, none⟩ x1).setCell ⟨g1, 2, none⟩ x2).setCell ⟨g1, 3, none⟩ x3).setCell ⟨g1, 4, none⟩ x4).setCell ⟨g1, 5, none⟩ x5) g1 58 #[x0, x1, x2, x3, x4, x5] := by
    simpa using (((((h1.set 0 x0).set 1 x1).set 2 x2).set 3 x3).set 4 x4).set 5 x5
  have B6 : Blk ((((((V.setCell ⟨g1, 0, none⟩ x0).setCell ⟨g1, 1, none⟩ x1).setCell ⟨g1, 2, none⟩ x2).setCell ⟨g1, 3, none⟩ x3).setCell ⟨g1, 4, none⟩ x4).setCell ⟨g1, 5, none⟩ x5) g2 27 #[b0, b1, b2, b3, b4] :=
    (((((h2.far (p := ⟨g1, 0, none⟩) (Ne.symm hne) x0).far (p := ⟨g1, 1, none⟩) (Ne.symm hne) x1).far (p := ⟨g1, 2, none⟩) (Ne.symm hne) x2).far (p := ⟨g1, 3, none⟩) (Ne.symm hne) x3).far (p := ⟨g1, 4, none⟩) (Ne.symm hne) x4).far (p := ⟨g1, 5, none⟩) (Ne.symm hne) x5
  have O6 : OwnB ((((((V.setCell ⟨g1, 0, none⟩ x0).setCell ⟨g1, 1, none⟩ x1).setCell ⟨g1, 2, none⟩ x2).setCell ⟨g1, 3, none⟩ x3).setCell ⟨g1, 4, none⟩ x4).setCell ⟨g1, 5, none⟩ x5) base v l :=
    own_far (own_far (own_far (own_far (own_far (own_far ho h1 (by decide) 0 x0) (h1.set 0 x0) (by decide) 1 x1) ((h1.set 0 x0).set 1 x1) (by decide) 2 x2) (((h1.set 0 x0).set 1 x1).set 2 x2) (by decide) 3 x3) ((((h1.set 0 x0).set 1 x1).set 2 x2).set 3 x3) (by decide) 4 x4) (((((h1.set 0 x0).set 1 x1).set 2 x2).set 3 x3).set 4 x4) (by decide) 5 x5
  have L6 : Below w0.heap.size w0 ((((((V.setCell ⟨g1, 0, none⟩ x0).setCell ⟨g1, 1, none⟩ x1).setCell ⟨g1, 2, none⟩ x2).setCell ⟨g1, 3, none⟩ x3).setCell ⟨g1, 4, none⟩ x4).setCell ⟨g1, 5, none⟩ x5) := (((((hb.setCell (p := ⟨g1, 0, none⟩) hg1 x0).setCell (p := ⟨g1, 1, none⟩) hg1 x1).setCell (p := ⟨g1, 2, none⟩) hg1 x2).setCell (p := ⟨g1, 3, none⟩) hg1 x3).setCell (p := ⟨g1, 4, none⟩) hg1 x4).setCell (p := ⟨g1, 5, none⟩) hg1 x5
  intro V'
  refine ⟨?_, ?_, ?_, ?_⟩
  · exact (((((A6.far (p := ⟨g2, 0, none⟩) hne y0).far (p := ⟨g2, 1, none⟩) hne y1).far (p := ⟨g2, 2, none⟩) hne y2).far (p := ⟨g2, 3, none⟩) hne y3).far (p := ⟨g2, 4, none⟩) hne y4).drew
  · have := ((((B6.set 0 y0).set 1 y1).set 2 y2).set 3 y3).set 4 y4
    simp only [List.setIfInBounds_toArray] at this
    exact this.drew
  · exact own_drew (own_far (own_far (own_far (own_far (own_far O6 B6 (by decide) 0 y0) (B6.set 0 y0) (by decide) 1 y1) ((B6.set 0 y0).set 1 y1) (by decide) 2 y2) (((B6.set 0 y0).set 1 y1).set 2 y2) (by decide) 3 y3) ((((B6.set 0 y0).set 1 y1).set 2 y2).set 3 y3) (by decide) 4 y4)
  · exact Below.drew (((((L6.setCell (p := ⟨g2, 0, none⟩) hg2 y0).setCell (p := ⟨g2, 1, none⟩) hg2 y1).setCell (p := ⟨g2, 2, none⟩) hg2 y2).setCell (p := ⟨g2, 3, none⟩) hg2 y3).setCell (p := ⟨g2, 4, none⟩) hg2 y4)
/-- A cell of the first block is written. -/
theorem Fx.put0 {w0 V : World} {g : Nat} {t : TypeId} {cs : Array Value} {L : List (Nat × TypeId × Array Value)} {R : List (Nat × Value × List UInt8)} (h : Fx w0 V ((g, t, cs) :: L) R []) (hg : w0.heap.size ≤ g) (ht : 5 ≠ t) (hL : ∀ p ∈ L, p.1 ≠ g) (k : Nat) (u : Value) :
    Fx w0 (V.setCell ⟨g, k, none⟩ u) ((g, t, cs.setIfInBounds k u) :: L) R [] :=
  ⟨h.bl.setCell hg u, fun p hp => by
    rcases List.mem_cons.1 hp with rfl | hp
    · exact (h.blk (g, t, cs) (List.mem_cons_self ..)).set k u
    · exact (h.blk p (List.mem_cons_of_mem _ hp)).far (p := ⟨g, k, none⟩) (hL p hp) u,
   fun p hp => ⟨own_far (h.row p hp).1 (h.blk (g, t, cs) (List.mem_cons_self ..)) ht k u, by simp; exact (h.row p hp).2⟩, fun _ hp => (nomatch hp)⟩
section
attribute [local go_sem] q_add1 wrap_add1
set_option maxHeartbeats 4000000 in
theorem Seal_good (s : St) (n : Nx) (v : Value) (l : List UInt8) (w : World) (ht : Tab w) (h : Bs 0 w.heap.size w v l) (hl : l.length ≤ 65536) (hn : n ≠ 18446744073709551615#64) :
    Calls Tryd.prog 25 #[rgV s n, v] w fun e w' => ∃ A c, e = .returned (.tuple #[bxV n (.slice A l.length c) (tagF s n (hidF s n l)), rgV s (n + 1#64), .int .i64 0]) ∧ OwnB w' w.heap.size (.slice A l.length c) (hidF s n l) ∧ Below w.heap.size w w' := by
  have hlen := hid_len s n l
  have hT := fun W (hb : Below w.heap.size w W) => turned_any s n v l W (ht.below hb (Nat.le_refl _)) (h.to hb) hl
  have hG := fun v' W (hb : Below w.heap.size w W) (h' : Bs 0 W.heap.size W v' (hidF s n l)) => Tag_good s n v' (hidF s n l) W (ht.below hb (Nat.le_refl _)) h' (by omega)
  obtain ⟨A, c, rfl⟩ := h.form
  generalize hidF s n l = H at *
  generalize tagF s n H = T at *
  obtain ⟨m, hm⟩ : ∃ m, m = l.length := ⟨_, rfl⟩
  rw [← hm] at hlen hl hT ⊢
  have h1 : ¬ (65536 : Int) < (m : Int) := by omega
  have hf := full_ne hn
  have X0 : Fx w (((w.alloc (.cells (rgC s n) 27)).alloc (.cells zBx 58)).alloc (.cells zRg 27)) [(w.heap.size, 27, rgC s n), (w.heap.size + 1, 58, zBx), (w.heap.size + 1 + 1, 27, zRg)] [] [] := (((Fx.nil w).newB w.heap.size rfl (rgC s n) 27).newB (w.heap.size + 1) (by simp) zBx 58).newB (w.heap.size + 1 + 1) (by simp) zRg 27
  replace X0 := hide X0; replace hT := hide hT; replace hG := hide hG; replace hlen := hide hlen
  clear h hl hn ht hm
  go_enter Tryd.func25, Tryd.ntmps25
  go_upto_region 1 with (fail)
  generalize hW : World.alloc (World.alloc (World.alloc w _) _) _ = W at *
  clear hW
  have c0 : W.cell? ⟨w.heap.size, 0, none⟩ = some (u32v s.a) := ((unhide X0).get 0 rfl).cell 0
  have c1 : W.cell? ⟨w.heap.size, 1, none⟩ = some (u32v s.b) := ((unhide X0).get 0 rfl).cell 1
  have c2 : W.cell? ⟨w.heap.size, 2, none⟩ = some (u32v s.c) := ((unhide X0).get 0 rfl).cell 2
  have c3 : W.cell? ⟨w.heap.size, 3, none⟩ = some (u32v s.d) := ((unhide X0).get 0 rfl).cell 3
  have c4 : W.cell? ⟨w.heap.size, 4, none⟩ = some (u64v n) := ((unhide X0).get 0 rfl).cell 4
  go_upto_region 11 with (first
    | (go_at_call 38; refine (unhide hT _ (unhide X0).bl).mono ?_; rintro e w2 ⟨A2, c2', rfl, o2, hb2⟩
       have X2 : Fx w w2 [(w.heap.size, 27, rgC s n), (w.heap.size + 1, 58, zBx), (w.heap.size + 1 + 1, 27, zRg)] [(w.heap.size, .slice A2 m c2', H)] [] := Fx.addR ((unhide X0).call hb2) (ownsRow_mono o2 (unhide X0).bl.size) ((unhide X0).call hb2).bl.size
       have d0 : w2.cell? ⟨w.heap.size, 0, none⟩ = some (u32v s.a) := (X2.get 0 rfl).cell 0
       have d1 : w2.cell? ⟨w.heap.size, 1, none⟩ = some (u32v s.b) := (X2.get 0 rfl).cell 1
       have d2 : w2.cell? ⟨w.heap.size, 2, none⟩ = some (u32v s.c) := (X2.get 0 rfl).cell 2
       have d3 : w2.cell? ⟨w.heap.size, 3, none⟩ = some (u32v s.d) := (X2.get 0 rfl).cell 3
       have d4 : w2.cell? ⟨w.heap.size, 4, none⟩ = some (u64v n) := (X2.get 0 rfl).cell 4
       replace X2 := hide X2
       clear o2 hb2)
    | (go_at_call 39; refine (unhide hG _ _ (unhide X2).bl (Bs.of_own0 ((unhide X2).own 0 rfl))).mono ?_; rintro e w3 ⟨rfl, hb3⟩
       have l3 : w.heap.size + 1 + 1 < w3.heap.size := (((unhide X2).call hb3).get 2 rfl).lt
       have X3 : Fx w (w3.alloc (.cells (stC T) 24)) [(w.heap.size, 27, rgC s n), (w.heap.size + 1, 58, zBx), (w.heap.size + 1 + 1, 27, zRg), (w3.heap.size, 24, stC T)] [(w.heap.size, .slice A2 m c2', H)] [] := ((unhide X2).call hb3).newB w3.heap.size rfl (stC T) 24
       replace X3 := hide X3
       clear hb3)
    | fail)
  clear d0 d1 d2 d3 d4 c0 c1 c2 c3 c4
  generalize w3.heap.size = g9 at *
  generalize World.alloc w3 _ = w4 at *
  have d0 : w4.cell? ⟨w.heap.size, 0, none⟩ = some (u32v s.a) := ((unhide X3).get 0 rfl).cell 0
  have d1 : w4.cell? ⟨w.heap.size, 1, none⟩ = some (u32v s.b) := ((unhide X3).get 0 rfl).cell 1
  have d2 : w4.cell? ⟨w.heap.size, 2, none⟩ = some (u32v s.c) := ((unhide X3).get 0 rfl).cell 2
  have d3 : w4.cell? ⟨w.heap.size, 3, none⟩ = some (u32v s.d) := ((unhide X3).get 0 rfl).cell 3
  have d4 : w4.cell? ⟨w.heap.size, 4, none⟩ = some (u64v n) := ((unhide X3).get 0 rfl).cell 4
  have e4 : w4.frozen? ⟨w.heap.size, 4, none⟩ = false := ((unhide X3).get 0 rfl).frozen 4
  have t0 : w4.cell? ⟨g9, 0, none⟩ = some (u32v T.a) := ((unhide X3).get 3 rfl).cell 0
  have t1 : w4.cell? ⟨g9, 1, none⟩ = some (u32v T.b) := ((unhide X3).get 3 rfl).cell 1
  have t2 : w4.cell? ⟨g9, 2, none⟩ = some (u32v T.c) := ((unhide X3).get 3 rfl).cell 2
  have t3 : w4.cell? ⟨g9, 3, none⟩ = some (u32v T.d) := ((unhide X3).get 3 rfl).cell 3
  have k0 : w.heap.size < w4.heap.size := ((unhide X3).get 0 rfl).lt
  have k9 : g9 < w4.heap.size := ((unhide X3).get 3 rfl).lt
  go_upto_region 13 with (fail)
  have hg9 : w.heap.size + 1 + 1 < g9 := by omega
  have X4 := Fx.put0 (unhide X3) (Nat.le_refl _) (by decide) (by simp; omega) 4 (u64v (n + 1#64))
  have X5 : Fx w _ [(w.heap.size, 27, rgC s (n + 1#64)), (w.heap.size + 1, 58, zBx), (w.heap.size + 1 + 1, 27, zRg), (g9, 24, stC T), (w4.heap.size, 58, bxC n (.slice A2 m c2') T)] [(w.heap.size, .slice A2 m c2', H)] [] := X4.newB w4.heap.size (by simp) (bxC n (.slice A2 m c2') T) 58
  replace X5 := hide X5
  clear X4 X3 d0 d1 d2 d3 d4 e4 t0 t1 t2 t3
  obtain ⟨g10, hg10⟩ : ∃ g10, g10 = w4.heap.size := ⟨_, rfl⟩
  rw [← hg10] at X5 k9 k0 ⊢
  clear hg10
  generalize World.alloc (World.setCell w4 _ _) _ = V at *
  have b0 : V.cell? ⟨g10, 0, none⟩ = some (u64v n) := ((unhide X5).get 4 rfl).cell 0
  have b1 : V.cell? ⟨g10, 1, none⟩ = some (.slice A2 m c2') := ((unhide X5).get 4 rfl).cell 1
  have b2 : V.cell? ⟨g10, 2, none⟩ = some (u32v T.a) := ((unhide X5).get 4 rfl).cell 2
  have b3 : V.cell? ⟨g10, 3, none⟩ = some (u32v T.b) := ((unhide X5).get 4 rfl).cell 3
  have b4 : V.cell? ⟨g10, 4, none⟩ = some (u32v T.c) := ((unhide X5).get 4 rfl).cell 4
  have b5 : V.cell? ⟨g10, 5, none⟩ = some (u32v T.d) := ((unhide X5).get 4 rfl).cell 5
  have r0 : V.cell? ⟨w.heap.size, 0, none⟩ = some (u32v s.a) := ((unhide X5).get 0 rfl).cell 0
  have r1 : V.cell? ⟨w.heap.size, 1, none⟩ = some (u32v s.b) := ((unhide X5).get 0 rfl).cell 1
  have r2 : V.cell? ⟨w.heap.size, 2, none⟩ = some (u32v s.c) := ((unhide X5).get 0 rfl).cell 2
  have r3 : V.cell? ⟨w.heap.size, 3, none⟩ = some (u32v s.d) := ((unhide X5).get 0 rfl).cell 3
  have r4 : V.cell? ⟨w.heap.size, 4, none⟩ = some (u64v (n + 1#64)) := ((unhide X5).get 0 rfl).cell 4
  have p0 : V.cell? ⟨w.heap.size + 1, 0, none⟩ = some (.int .u64 0) := ((unhide X5).get 1 rfl).cell 0
  have p1 : V.cell? ⟨w.heap.size + 1, 1, none⟩ = some (.slice none 0 0) := ((unhide X5).get 1 rfl).cell 1
  have p2 : V.cell? ⟨w.heap.size + 1, 2, none⟩ = some (.int .u32 0) := ((unhide X5).get 1 rfl).cell 2
  have p3 : V.cell? ⟨w.heap.size + 1, 3, none⟩ = some (.int .u32 0) := ((unhide X5).get 1 rfl).cell 3
  have p4 : V.cell? ⟨w.heap.size + 1, 4, none⟩ = some (.int .u32 0) := ((unhide X5).get 1 rfl).cell 4
  have p5 : V.cell? ⟨w.heap.size + 1, 5, none⟩ = some (.int .u32 0) := ((unhide X5).get 1 rfl).cell 5
  have q0 : V.cell? ⟨w.heap.size + 1 + 1, 0, none⟩ = some (.int .u32 0) := ((unhide X5).get 2 rfl).cell 0
  have q1 : V.cell? ⟨w.heap.size + 1 + 1, 1, none⟩ = some (.int .u32 0) := ((unhide X5).get 2 rfl).cell 1
  have q2 : V.cell? ⟨w.heap.size + 1 + 1, 2, none⟩ = some (.int .u32 0) := ((unhide X5).get 2 rfl).cell 2
  have q3 : V.cell? ⟨w.heap.size + 1 + 1, 3, none⟩ = some (.int .u32 0) := ((unhide X5).get 2 rfl).cell 3
  have q4 : V.cell? ⟨w.heap.size + 1 + 1, 4, none⟩ = some (.int .u64 0) := ((unhide X5).get 2 rfl).cell 4
  have pf0 : V.frozen? ⟨w.heap.size + 1, 0, none⟩ = false := ((unhide X5).get 1 rfl).frozen 0
  have pf1 : V.frozen? ⟨w.heap.size + 1, 1, none⟩ = false := ((unhide X5).get 1 rfl).frozen 1
  have pf2 : V.frozen? ⟨w.heap.size + 1, 2, none⟩ = false := ((unhide X5).get 1 rfl).frozen 2
  have pf3 : V.frozen? ⟨w.heap.size + 1, 3, none⟩ = false := ((unhide X5).get 1 rfl).frozen 3
  have pf4 : V.frozen? ⟨w.heap.size + 1, 4, none⟩ = false := ((unhide X5).get 1 rfl).frozen 4
  have pf5 : V.frozen? ⟨w.heap.size + 1, 5, none⟩ = false := ((unhide X5).get 1 rfl).frozen 5
  have qf0 : V.frozen? ⟨w.heap.size + 1 + 1, 0, none⟩ = false := ((unhide X5).get 2 rfl).frozen 0
  have qf1 : V.frozen? ⟨w.heap.size + 1 + 1, 1, none⟩ = false := ((unhide X5).get 2 rfl).frozen 1
  have qf2 : V.frozen? ⟨w.heap.size + 1 + 1, 2, none⟩ = false := ((unhide X5).get 2 rfl).frozen 2
  have qf3 : V.frozen? ⟨w.heap.size + 1 + 1, 3, none⟩ = false := ((unhide X5).get 2 rfl).frozen 3
  have qf4 : V.frozen? ⟨w.heap.size + 1 + 1, 4, none⟩ = false := ((unhide X5).get 2 rfl).frozen 4
  have n1 : ¬ w.heap.size + 1 = g10 := by omega
  have n2 : ¬ w.heap.size + 1 + 1 = g10 := by omega
  have n3 : ¬ g10 = w.heap.size + 1 := by omega
  have n4 : ¬ g10 = w.heap.size + 1 + 1 := by omega
  go_region_held3 (fun W => W.cell? ⟨g10, 0, none⟩ = some (u64v n) ∧ W.cell? ⟨g10, 1, none⟩ = some (.slice A2 m c2') ∧ W.cell? ⟨g10, 2, none⟩ = some (u32v T.a) ∧ W.cell? ⟨g10, 3, none⟩ = some (u32v T.b) ∧ W.cell? ⟨g10, 4, none⟩ = some (u32v T.c) ∧ W.cell? ⟨g10, 5, none⟩ = some (u32v T.d) ∧ W.cell? ⟨w.heap.size, 0, none⟩ = some (u32v s.a) ∧ W.cell? ⟨w.heap.size, 1, none⟩ = some (u32v s.b) ∧ W.cell? ⟨w.heap.size, 2, none⟩ = some (u32v s.c) ∧ W.cell? ⟨w.heap.size, 3, none⟩ = some (u32v s.d) ∧ W.cell? ⟨w.heap.size, 4, none⟩ = some (u64v (n + 1#64))) (first | exact ⟨by with_reducible assumption, by with_reducible assumption, by with_reducible assumption, by with_reducible assumption, by with_reducible assumption, by with_reducible assumption, by with_reducible assumption, by with_reducible assumption, by with_reducible assumption, by with_reducible assumption, by with_reducible assumption⟩ | exact ⟨by go_simp, by go_simp, by go_simp, by go_simp, by go_simp, by go_simp, by go_simp, by go_simp, by go_simp, by go_simp, by go_simp⟩) (fail)
  go_wp2_with (fail)
  obtain ⟨F1, F2, F3, F4⟩ := two_put (x0 := u64v n) (x1 := .slice A2 m c2') (x2 := u32v T.a) (x3 := u32v T.b) (x4 := u32v T.c) (x5 := u32v T.d) (y0 := u32v s.a) (y1 := u32v s.b) (y2 := u32v s.c) (y3 := u32v s.d) (y4 := u64v (n + 1#64)) ((unhide X5).get 1 rfl) ((unhide X5).get 2 rfl) (by omega) ((unhide X5).own 0 rfl) (unhide X5).bl (by omega) (by omega)
  refine ret_br3 rfl (w.heap.size + 1) (w.heap.size + 1 + 1) (bxC n (.slice A2 m c2') T) (rgC s (n + 1#64)) (.int .i64 0) rfl rfl rfl rfl rfl F1 F2 rfl ⟨A2, c2', rfl, F3, F4⟩
end
end Go.Proofs.YthkccpemgmpadaaDoor

namespace Go.Proofs.YthkccpemgmpadaaDoor
set_option maxRecDepth 100000
open Go.RowKit

theorem neq_st (w : World) (s t : St) : (binOp .neq 24 (stV s) (stV t)).run Tryd.prog w = .ok (.bool (!sameS s t)) w := by
  rw [run_neq_struct, equalIn_st]
  rfl
set_option maxHeartbeats 1000000 in
theorem Open_long (lo : Nat) (s : St) (n : Nx) (v : Value) (l : List UInt8) (t : St) (w : World) (h : Bs lo w.heap.size w v l) (hl : 65536 < l.length) :
    Calls Tryd.prog 30 #[stV s, bxV n v t] w fun e w' => e = .returned (.tuple #[.slice none 0 0, .int .i64 3]) ∧ Below w.heap.size w w' := by
  have hT := fun W (hb : Below w.heap.size w W) => Tag20_long lo s n v l W (h.to hb) hl
  obtain ⟨A, c, rfl⟩ := h.form
  have X0 : Fx w ((w.alloc (.cells (stC s) 24)).alloc (.cells (bxC n (.slice A l.length c) t) 58)) [(w.heap.size, 24, stC s), (w.heap.size + 1, 58, bxC n (.slice A l.length c) t)] [] [] := ((Fx.nil w).newB w.heap.size rfl (stC s) 24).newB (w.heap.size + 1) (by simp) (bxC n (.slice A l.length c) t) 58
  generalize l.length = m at *
  replace X0 := hide X0; replace hT := hide hT
  clear h hl
  go_enter Tryd.func30, Tryd.ntmps30
  go_upto_region 1 with (fail)
  generalize hW : World.alloc (World.alloc w _) _ = W at *
  clear hW
  have c0 : W.cell? ⟨w.heap.size, 0, none⟩ = some (u32v s.a) := ((unhide X0).get 0 rfl).cell 0
  have c1 : W.cell? ⟨w.heap.size, 1, none⟩ = some (u32v s.b) := ((unhide X0).get 0 rfl).cell 1
  have c2 : W.cell? ⟨w.heap.size, 2, none⟩ = some (u32v s.c) := ((unhide X0).get 0 rfl).cell 2
  have c3 : W.cell? ⟨w.heap.size, 3, none⟩ = some (u32v s.d) := ((unhide X0).get 0 rfl).cell 3
  have b0 : W.cell? ⟨w.heap.size + 1, 0, none⟩ = some (u64v n) := ((unhide X0).get 1 rfl).cell 0
  have b1 : W.cell? ⟨w.heap.size + 1, 1, none⟩ = some (.slice A m c) := ((unhide X0).get 1 rfl).cell 1
  go_wp2_with (first
    | (go_at_call 39; refine (unhide hT _ (unhide X0).bl).mono ?_; rintro e w2 ⟨rfl, hb2⟩)
    | fail)
  go_ret2
  exact ⟨rfl, bl_alloc (bl_call (unhide X0).bl hb2) _⟩

set_option maxHeartbeats 1000000 in
theorem Open_any (s : St) (n : Nx) (v : Value) (l : List UInt8) (t : St) (w : World) (ht : Tab w) (h : Bs 0 w.heap.size w v l) (hl : l.length ≤ 65536) :
    Calls Tryd.prog 30 #[stV s, bxV n v t] w fun e w' => (if sameS (tagF s n l) t = true then ∃ A c, e = .returned (.tuple #[.slice A l.length c, .int .i64 0]) ∧ OwnB w' w.heap.size (.slice A l.length c) (hidF s n l) else e = .returned (.tuple #[.slice none 0 0, .int .i64 8])) ∧ Below w.heap.size w w' := by
  have hT := fun W (hb : Below w.heap.size w W) => Tag_good s n v l W (ht.below hb (Nat.le_refl _)) (h.to hb) hl
  have hG := fun W (hb : Below w.heap.size w W) => turned_any s n v l W (ht.below hb (Nat.le_refl _)) (h.to hb) hl
  obtain ⟨A, c, rfl⟩ := h.form
  have X0 : Fx w ((w.alloc (.cells (stC s) 24)).alloc (.cells (bxC n (.slice A l.length c) t) 58)) [(w.heap.size, 24, stC s), (w.heap.size + 1, 58, bxC n (.slice A l.length c) t)] [] [] := ((Fx.nil w).newB w.heap.size rfl (stC s) 24).newB (w.heap.size + 1) (by simp) (bxC n (.slice A l.length c) t) 58
  generalize hidF s n l = H at *
  generalize tagF s n l = T at *
  generalize l.length = m at *
  have hE := fun W => neq_st W T t
  have hz : ∃ z, z = sameS T t := ⟨_, rfl⟩
  obtain ⟨z, hz⟩ := hz
  rw [← hz] at hE ⊢
  replace X0 := hide X0; replace hT := hide hT; replace hG := hide hG
  clear h hl hz
  go_enter Tryd.func30, Tryd.ntmps30
  go_upto_region 1 with (fail)
  generalize hW : World.alloc (World.alloc w _) _ = W at *
  clear hW
  have c0 : W.cell? ⟨w.heap.size, 0, none⟩ = some (u32v s.a) := ((unhide X0).get 0 rfl).cell 0
  have c1 : W.cell? ⟨w.heap.size, 1, none⟩ = some (u32v s.b) := ((unhide X0).get 0 rfl).cell 1
  have c2 : W.cell? ⟨w.heap.size, 2, none⟩ = some (u32v s.c) := ((unhide X0).get 0 rfl).cell 2
  have c3 : W.cell? ⟨w.heap.size, 3, none⟩ = some (u32v s.d) := ((unhide X0).get 0 rfl).cell 3
  have b0 : W.cell? ⟨w.heap.size + 1, 0, none⟩ = some (u64v n) := ((unhide X0).get 1 rfl).cell 0
  have b1 : W.cell? ⟨w.heap.size + 1, 1, none⟩ = some (.slice A m c) := ((unhide X0).get 1 rfl).cell 1
  go_upto_region 4 with (first
    | (go_at_call 39; refine (unhide hT _ (unhide X0).bl).mono ?_; rintro e w2 ⟨rfl, hb2⟩
       have X2 : Fx w (w2.alloc (.cells (stC T) 24)) [(w.heap.size, 24, stC s), (w.heap.size + 1, 58, bxC n (.slice A m c) t), (w2.heap.size, 24, stC T)] [] [] := ((unhide X0).call hb2).newB w2.heap.size rfl (stC T) 24
       replace X2 := hide X2
       clear hb2)
    | fail)
  generalize w2.heap.size = g2 at *
  generalize World.alloc w2 _ = W2 at *
  clear c0 c1 c2 c3 b0 b1
  have c0 : W2.cell? ⟨w.heap.size, 0, none⟩ = some (u32v s.a) := ((unhide X2).get 0 rfl).cell 0
  have c1 : W2.cell? ⟨w.heap.size, 1, none⟩ = some (u32v s.b) := ((unhide X2).get 0 rfl).cell 1
  have c2 : W2.cell? ⟨w.heap.size, 2, none⟩ = some (u32v s.c) := ((unhide X2).get 0 rfl).cell 2
  have c3 : W2.cell? ⟨w.heap.size, 3, none⟩ = some (u32v s.d) := ((unhide X2).get 0 rfl).cell 3
  have b0 : W2.cell? ⟨w.heap.size + 1, 0, none⟩ = some (u64v n) := ((unhide X2).get 1 rfl).cell 0
  have b1 : W2.cell? ⟨w.heap.size + 1, 1, none⟩ = some (.slice A m c) := ((unhide X2).get 1 rfl).cell 1
  have b2 : W2.cell? ⟨w.heap.size + 1, 2, none⟩ = some (u32v t.a) := ((unhide X2).get 1 rfl).cell 2
  have b3 : W2.cell? ⟨w.heap.size + 1, 3, none⟩ = some (u32v t.b) := ((unhide X2).get 1 rfl).cell 3
  have b4 : W2.cell? ⟨w.heap.size + 1, 4, none⟩ = some (u32v t.c) := ((unhide X2).get 1 rfl).cell 4
  have b5 : W2.cell? ⟨w.heap.size + 1, 5, none⟩ = some (u32v t.d) := ((unhide X2).get 1 rfl).cell 5
  have t0 : W2.cell? ⟨g2, 0, none⟩ = some (u32v T.a) := ((unhide X2).get 2 rfl).cell 0
  have t1 : W2.cell? ⟨g2, 1, none⟩ = some (u32v T.b) := ((unhide X2).get 2 rfl).cell 1
  have t2 : W2.cell? ⟨g2, 2, none⟩ = some (u32v T.c) := ((unhide X2).get 2 rfl).cell 2
  have t3 : W2.cell? ⟨g2, 3, none⟩ = some (u32v T.d) := ((unhide X2).get 2 rfl).cell 3
  cases z with
  | false =>
    go_wp2_with (fail)
    go_ret2
    exact ⟨rfl, (unhide X2).bl⟩
  | true =>
    go_wp2_with (first
      | (go_at_call 38; refine (unhide hG _ (unhide X2).bl).mono ?_; rintro e w3 ⟨A3, c3', rfl, o3, hb3⟩)
      | fail)
    go_ret2
    exact ⟨⟨A3, c3', rfl, ownsRow_mono o3 (unhide X2).bl.size⟩, bl_call (unhide X2).bl hb3⟩
end Go.Proofs.YthkccpemgmpadaaDoor

namespace Go.Proofs.YthkccpemgmpadaaDoor
set_option maxRecDepth 100000
open Go.RowKit

/-- Three texts, one behind the other. -/
theorem concat3 (v1 v2 v3 : Value) (l1 l2 l3 : List UInt8) (W : World) (h1 : Bs 0 W.heap.size W v1 l1) (h2 : Bs 0 W.heap.size W v2 l2) (h3 : Bs 0 W.heap.size W v3 l3) (h0 : 0 < (l1 ++ l2 ++ l3).length) (hL : (l1 ++ l2 ++ l3).length ≤ 1000000) :
    Calls Tryd.prog 17 #[.slice (some ⟨W.heap.size, 0, none⟩) 3 3] (W.alloc (.cells #[v1, v2, v3] 31)) fun e w' => ∃ A c, e = .returned (.slice A (l1 ++ l2 ++ l3).length c) ∧ OwnB w' W.heap.size (.slice A (l1 ++ l2 ++ l3).length c) (l1 ++ l2 ++ l3) ∧ Below W.heap.size W w' := by
  have hB : Blk (W.alloc (.cells #[v1, v2, v3] 31)) W.heap.size 31 #[v1, v2, v3] := Blk.new rfl
  have hb : Below W.heap.size W (W.alloc (.cells #[v1, v2, v3] 31)) := bl_alloc (Below.refl _ _) _
  obtain ⟨A1, c1, rfl⟩ := h1.form
  obtain ⟨A2, c2, rfl⟩ := h2.form
  obtain ⟨A3, c3, rfl⟩ := h3.form
  have hLs : Lists 0 (W.alloc (.cells #[.slice A1 l1.length c1, .slice A2 l2.length c2, .slice A3 l3.length c3] 31)) W.heap.size [l1, l2, l3] := by
    intro k hk
    match k, hk with
    | 0, _ => exact ⟨A1, c1, hB.cell 0, h1.to hb⟩
    | 1, _ => exact ⟨A2, c2, hB.cell 1, h2.to hb⟩
    | 2, _ => exact ⟨A3, c3, hB.cell 2, h3.to hb⟩
  have e1 : cat [l1, l2, l3] 3 = l1 ++ l2 ++ l3 := by simp [cat]
  have e2 : upto [l1, l2, l3] 3 = (l1 ++ l2 ++ l3).length := by rw [← upto_cat, e1]
  have h := concat_any 0 W.heap.size [l1, l2, l3] _ hLs (by simp) (by simp) (by show 0 < upto [l1, l2, l3] 3; omega) (by show upto [l1, l2, l3] 3 ≤ _; omega)
  have e3 : [l1, l2, l3].length = 3 := rfl
  rw [e3, e2, e1] at h
  refine h.mono ?_
  rintro e w' ⟨A, c, rfl, ho, hb'⟩
  exact ⟨A, c, rfl, ownsRow_mono ho hb.size, bl_call hb hb'⟩

set_option maxHeartbeats 1000000 in
theorem Bytes_long (lo : Nat) (n : Nx) (v : Value) (l : List UInt8) (t : St) (w : World) (h : Bs lo w.heap.size w v l) (hl : 65536 < l.length) :
    Calls Tryd.prog 26 #[bxV n v t] w fun e w' => e = .returned (.tuple #[.slice none 0 0, .int .i64 3]) ∧ Below w.heap.size w w' := by
  obtain ⟨A, c, rfl⟩ := h.form
  have h1 : (65536 : Int) < (l.length : Int) := by omega
  clear h hl
  go_enter Tryd.func26, Tryd.ntmps26
  go_wp2_with (fail)
  go_ret2
  exact ⟨rfl, by (repeat (first | with_reducible exact Below.refl _ _ | with_reducible assumption | with_reducible refine Below.drew ?_ | with_reducible refine bl_alloc ?_ _ | with_reducible refine bl_call ?_ (by assumption) | (focus (with_reducible refine Below.setCell ?_ ?_ _; rotate_left; focus (first | omega | (simp <;> omega)))) | fail))⟩

set_option maxHeartbeats 1000000 in
theorem Bytes_good (n : Nx) (v : Value) (l : List UInt8) (t : St) (w : World) (h : Bs 0 w.heap.size w v l) (hl : l.length ≤ 65536) :
    Calls Tryd.prog 26 #[bxV n v t] w fun e w' => ∃ A c, e = .returned (.tuple #[.slice A (bytesF ⟨n, l, t⟩).length c, .int .i64 0]) ∧ OwnB w' w.heap.size (.slice A (bytesF ⟨n, l, t⟩).length c) (bytesF ⟨n, l, t⟩) ∧ Below w.heap.size w w' := by
  have hl8 := eight_len n
  have hl16 := octs_len t
  have hc := fun v1 v2 v3 W (h1 : Bs 0 W.heap.size W v1 (eight n)) (h2 : Bs 0 W.heap.size W v2 (octs4 t)) (h3 : Bs 0 W.heap.size W v3 l) => concat3 v1 v2 v3 _ _ _ W h1 h2 h3 (by simp [hl8]; omega) (by simp [hl8, hl16]; omega)
  have hF : bytesF ⟨n, l, t⟩ = eight n ++ octs4 t ++ l := rfl
  rw [← hF] at hc
  generalize bytesF ⟨n, l, t⟩ = out at *
  obtain ⟨A, c, rfl⟩ := h.form
  have X0 : Fx w (w.alloc (.cells (bxC n (.slice A l.length c) t) 58)) [(w.heap.size, 58, bxC n (.slice A l.length c) t)] [] [(.slice A l.length c, l)] := Fx.addZ ((Fx.nil w).newB w.heap.size rfl (bxC n (.slice A l.length c) t) 58) (h.to (bl_alloc (Below.refl _ _) _))
  have h1 : ¬ (65536 : Int) < (l.length : Int) := by omega
  obtain ⟨m, hm⟩ : ∃ m, m = l.length := ⟨_, rfl⟩
  rw [← hm] at X0 h1 ⊢
  replace X0 := hide X0; replace hc := hide hc; replace hl8 := hide hl8; replace hl16 := hide hl16
  clear h hl hF hm
  go_enter Tryd.func26, Tryd.ntmps26
  go_upto_region 1 with (fail)
  generalize hW : World.alloc w _ = W at *
  clear hW
  have k0 : w.heap.size < W.heap.size := ((unhide X0).get 0 rfl).lt
  have b0 : W.cell? ⟨w.heap.size, 0, none⟩ = some (u64v n) := ((unhide X0).get 0 rfl).cell 0
  have b1 : W.cell? ⟨w.heap.size, 1, none⟩ = some (.slice A m c) := ((unhide X0).get 0 rfl).cell 1
  have b2 : W.cell? ⟨w.heap.size, 2, none⟩ = some (u32v t.a) := ((unhide X0).get 0 rfl).cell 2
  have b3 : W.cell? ⟨w.heap.size, 3, none⟩ = some (u32v t.b) := ((unhide X0).get 0 rfl).cell 3
  have b4 : W.cell? ⟨w.heap.size, 4, none⟩ = some (u32v t.c) := ((unhide X0).get 0 rfl).cell 4
  have b5 : W.cell? ⟨w.heap.size, 5, none⟩ = some (u32v t.d) := ((unhide X0).get 0 rfl).cell 5
  go_upto_region 3 with (fail)
  go_region_held3 (fun W => W.cell? ⟨w.heap.size, 0, none⟩ = some (u64v n) ∧ W.cell? ⟨w.heap.size, 1, none⟩ = some (.slice A m c) ∧ W.cell? ⟨w.heap.size, 2, none⟩ = some (u32v t.a) ∧ W.cell? ⟨w.heap.size, 3, none⟩ = some (u32v t.b) ∧ W.cell? ⟨w.heap.size, 4, none⟩ = some (u32v t.c) ∧ W.cell? ⟨w.heap.size, 5, none⟩ = some (u32v t.d)) (first | exact ⟨by with_reducible assumption, by with_reducible assumption, by with_reducible assumption, by with_reducible assumption, by with_reducible assumption, by with_reducible assumption⟩ | exact ⟨by go_simp, by go_simp, by go_simp, by go_simp, by go_simp, by go_simp⟩)
    (first
    | (go_at_call 40; refine (octets_any n W.drew).mono ?_; rintro e w5 ⟨v5, rfl, o5, hb5⟩
       obtain ⟨A5, c5, rfl⟩ : ∃ A c, v5 = .slice A 8 c := by obtain ⟨A, c, e⟩ := o5.form; exact ⟨A, c, by rw [e, unhide hl8]⟩
       have X5 : Fx w w5 [(w.heap.size, 58, bxC n (.slice A m c) t)] [] [(.slice A m c, l), (.slice A5 8 c5, eight n)] := Fx.addZ (Fx.call (unhide X0).drew hb5) (Bs.of_own0 o5)
       have k5 : w.heap.size < w5.heap.size := (X5.get 0 rfl).lt
       have d0 : w5.cell? ⟨w.heap.size, 0, none⟩ = some (u64v n) := (X5.get 0 rfl).cell 0
       have d1 : w5.cell? ⟨w.heap.size, 1, none⟩ = some (.slice A m c) := (X5.get 0 rfl).cell 1
       have d2 : w5.cell? ⟨w.heap.size, 2, none⟩ = some (u32v t.a) := (X5.get 0 rfl).cell 2
       have d3 : w5.cell? ⟨w.heap.size, 3, none⟩ = some (u32v t.b) := (X5.get 0 rfl).cell 3
       have d4 : w5.cell? ⟨w.heap.size, 4, none⟩ = some (u32v t.c) := (X5.get 0 rfl).cell 4
       have d5 : w5.cell? ⟨w.heap.size, 5, none⟩ = some (u32v t.d) := (X5.get 0 rfl).cell 5
       replace X5 := hide X5
       clear o5 hb5)
    | (go_at_call 41; refine (Octets_any t w5).mono ?_; rintro e w6 ⟨v6, rfl, o6, hb6⟩
       obtain ⟨A6, c6, rfl⟩ : ∃ A c, v6 = .slice A 16 c := by obtain ⟨A, c, e⟩ := o6.form; exact ⟨A, c, by rw [e, unhide hl16]⟩
       have X6 : Fx w w6 [(w.heap.size, 58, bxC n (.slice A m c) t)] [] [(.slice A m c, l), (.slice A5 8 c5, eight n), (.slice A6 16 c6, octs4 t)] := Fx.addZ (Fx.call (unhide X5) hb6) (Bs.of_own0 o6)
       have k6 : w.heap.size < w6.heap.size := (X6.get 0 rfl).lt
       have f0 : w6.cell? ⟨w.heap.size, 0, none⟩ = some (u64v n) := (X6.get 0 rfl).cell 0
       have f1 : w6.cell? ⟨w.heap.size, 1, none⟩ = some (.slice A m c) := (X6.get 0 rfl).cell 1
       have f2 : w6.cell? ⟨w.heap.size, 2, none⟩ = some (u32v t.a) := (X6.get 0 rfl).cell 2
       have f3 : w6.cell? ⟨w.heap.size, 3, none⟩ = some (u32v t.b) := (X6.get 0 rfl).cell 3
       have f4 : w6.cell? ⟨w.heap.size, 4, none⟩ = some (u32v t.c) := (X6.get 0 rfl).cell 4
       have f5 : w6.cell? ⟨w.heap.size, 5, none⟩ = some (u32v t.d) := (X6.get 0 rfl).cell 5
       replace X6 := hide X6
       clear o6 hb6)
    | (go_at_call 17; refine (unhide hc _ _ _ w6 ((unhide X6).rd 1 rfl) ((unhide X6).rd 2 rfl) ((unhide X6).rd 0 rfl)).mono ?_; rintro e w7 ⟨A7, c7, rfl, o7, hb7⟩
       have X7 : Fx w w7 [(w.heap.size, 58, bxC n (.slice A m c) t)] [] [] := Fx.sub (Fx.call (unhide X6) hb7) (by simp) (by simp) (by simp)
       have g0 : w7.cell? ⟨w.heap.size, 0, none⟩ = some (u64v n) := (X7.get 0 rfl).cell 0
       have g1 : w7.cell? ⟨w.heap.size, 1, none⟩ = some (.slice A m c) := (X7.get 0 rfl).cell 1
       have g2 : w7.cell? ⟨w.heap.size, 2, none⟩ = some (u32v t.a) := (X7.get 0 rfl).cell 2
       have g3 : w7.cell? ⟨w.heap.size, 3, none⟩ = some (u32v t.b) := (X7.get 0 rfl).cell 3
       have g4 : w7.cell? ⟨w.heap.size, 4, none⟩ = some (u32v t.c) := (X7.get 0 rfl).cell 4
       have g5 : w7.cell? ⟨w.heap.size, 5, none⟩ = some (u32v t.d) := (X7.get 0 rfl).cell 5
       have o7' : OwnB w7 w.heap.size (.slice A7 out.length c7) out := ownsRow_mono o7 (unhide X6).bl.size
       replace X7 := hide X7; replace o7' := hide o7'
       clear o7 hb7))
  all_goals go_wp2_with (fail)
  all_goals go_ret2
  all_goals exact ⟨A7, c7, rfl, unhide o7', (unhide X7).bl⟩
end Go.Proofs.YthkccpemgmpadaaDoor

namespace Go.Proofs.YthkccpemgmpadaaDoor
set_option maxRecDepth 100000
open Go.RowKit

set_option maxHeartbeats 1000000 in
theorem From_short (lo : Nat) (v : Value) (l : List UInt8) (w : World) (h : Bs lo w.heap.size w v l) (hl : l.length < 24) :
    Calls Tryd.prog 29 #[v] w fun e w' => e = .returned (.tuple #[.agg zBx, .int .i64 2]) ∧ Below w.heap.size w w' := by
  obtain ⟨A, c, rfl⟩ := h.form
  have h1 : (l.length : Int) < 24 := by omega
  have hB : Blk (w.alloc (.cells zBx 58)) w.heap.size 58 zBx := Blk.new rfl
  have hb : Below w.heap.size w (w.alloc (.cells zBx 58)) := bl_alloc (Below.refl _ _) _
  replace hB := hide hB; replace hb := hide hb
  clear h hl
  go_enter Tryd.func29, Tryd.ntmps29
  go_wp2_with (first
    | (refine wpList_store_row rfl 58 (.tmp 2) (.tmp 9) rfl w.heap.size zBx rfl rfl 58 zBx (unhide hB) size30 rfl zbx_one ?_)
    | fail)
  exact ret_b2 rfl w.heap.size zBx _ rfl rfl rfl ((unhide hB).row _) rfl ⟨rfl, bl_row (unhide hb) _ (Nat.le_refl _)⟩
set_option maxHeartbeats 1000000 in
theorem From_long (lo : Nat) (v : Value) (l : List UInt8) (w : World) (h : Bs lo w.heap.size w v l) (hl : 65560 < l.length) :
    Calls Tryd.prog 29 #[v] w fun e w' => e = .returned (.tuple #[.agg zBx, .int .i64 3]) ∧ Below w.heap.size w w' := by
  obtain ⟨A, c, rfl⟩ := h.form
  have h0 : ¬ (l.length : Int) < 24 := by omega
  have h1 : (65560 : Int) < (l.length : Int) := by omega
  have hB : Blk (w.alloc (.cells zBx 58)) w.heap.size 58 zBx := Blk.new rfl
  have hb : Below w.heap.size w (w.alloc (.cells zBx 58)) := bl_alloc (Below.refl _ _) _
  replace hB := hide hB; replace hb := hide hb
  clear h hl
  go_enter Tryd.func29, Tryd.ntmps29
  go_wp2_with (first
    | (refine wpList_store_row rfl 58 (.tmp 2) (.tmp 13) rfl w.heap.size zBx rfl rfl 58 zBx (unhide hB) size30 rfl zbx_one ?_)
    | fail)
  exact ret_b2 rfl w.heap.size zBx _ rfl rfl rfl ((unhide hB).row _) rfl ⟨rfl, bl_row (unhide hb) _ (Nat.le_refl _)⟩

theorem Blk.set6 {V : World} {g : Nat} {t : TypeId} {a0 a1 a2 a3 a4 a5 x0 x1 x2 x3 x4 x5 : Value} (h1 : Blk V g t #[a0, a1, a2, a3, a4, a5]) :
    Blk ((((((V.setCell ⟨g, 0, none⟩ x0).setCell ⟨g, 1, none⟩ x1).setCell ⟨g, 2, none⟩ x2).setCell ⟨g, 3, none⟩ x3).setCell ⟨g, 4, none⟩ x4).setCell ⟨g, 5, none⟩ x5) g t #[x0, x1, x2, x3, x4, x5] := by
  simpa using (((((h1.set 0 x0).set 1 x1).set 2 x2).set 3 x3).set 4 x4).set 5 x5
theorem own_set6 {V : World} {g1 base : Nat} {v : Value} {l : List UInt8} {a0 a1 a2 a3 a4 a5 x0 x1 x2 x3 x4 x5 : Value} (h1 : Blk V g1 58 #[a0, a1, a2, a3, a4, a5]) (ho : OwnB V base v l) :
    OwnB ((((((V.setCell ⟨g1, 0, none⟩ x0).setCell ⟨g1, 1, none⟩ x1).setCell ⟨g1, 2, none⟩ x2).setCell ⟨g1, 3, none⟩ x3).setCell ⟨g1, 4, none⟩ x4).setCell ⟨g1, 5, none⟩ x5) base v l :=
  own_far (own_far (own_far (own_far (own_far (own_far ho h1 (by decide) 0 x0) (h1.set 0 x0) (by decide) 1 x1) ((h1.set 0 x0).set 1 x1) (by decide) 2 x2) (((h1.set 0 x0).set 1 x1).set 2 x2) (by decide) 3 x3) ((((h1.set 0 x0).set 1 x1).set 2 x2).set 3 x3) (by decide) 4 x4) (((((h1.set 0 x0).set 1 x1).set 2 x2).set 3 x3).set 4 x4) (by decide) 5 x5
theorem below_set6 {B g1 : Nat} {a V : World} {x0 x1 x2 x3 x4 x5 : Value} (hb : Below B a V) (hg1 : B ≤ g1) :
    Below B a ((((((V.setCell ⟨g1, 0, none⟩ x0).setCell ⟨g1, 1, none⟩ x1).setCell ⟨g1, 2, none⟩ x2).setCell ⟨g1, 3, none⟩ x3).setCell ⟨g1, 4, none⟩ x4).setCell ⟨g1, 5, none⟩ x5) :=
  (((((hb.setCell (p := ⟨g1, 0, none⟩) hg1 x0).setCell (p := ⟨g1, 1, none⟩) hg1 x1).setCell (p := ⟨g1, 2, none⟩) hg1 x2).setCell (p := ⟨g1, 3, none⟩) hg1 x3).setCell (p := ⟨g1, 4, none⟩) hg1 x4).setCell (p := ⟨g1, 5, none⟩) hg1 x5

set_option maxHeartbeats 1000000 in
theorem From_good (v : Value) (l : List UInt8) (w : World) (h : Bs 0 w.heap.size w v l) (hl : 24 ≤ l.length) (hl2 : l.length ≤ 65560) :
    Calls Tryd.prog 29 #[v] w fun e w' => ∃ A c, e = .returned (.tuple #[bxV (fromF l).n (.slice A (fromF l).text.length c) (fromF l).tag, .int .i64 0]) ∧ OwnB w' w.heap.size (.slice A (fromF l).text.length c) (fromF l).text ∧ Below w.heap.size w w' := by
  obtain ⟨A, c, rfl⟩ := h.form
  have h0 : ¬ (l.length : Int) < 24 := by omega
  have h1 : ¬ (65560 : Int) < (l.length : Int) := by omega
  obtain ⟨A1, c1, s1, b1⟩ := h.cut_lh 8 24 8 24 rfl rfl (by omega) (by omega)
  obtain ⟨A2, c2, s2, b2⟩ := h.cut_h 8 8 rfl (by omega)
  obtain ⟨A3, c3, s3, b3⟩ := h.cut_l 24 24 rfl (by omega)
  have hO := fun W (hb : Below w.heap.size w W) => Of_good 0 _ _ W (b1.to hb) (by rw [List.length_take, List.length_drop]; omega)
  have hN := fun W (hb : Below w.heap.size w W) => number8_any 0 _ _ _ W (b2.to hb) (by rw [List.length_take]; omega)
  have hC := fun W (hb : Below w.heap.size w W) => bclone 0 _ _ W (b3.to hb) (by rw [List.length_drop]; omega)
  have e16 : 24 - 8 = 16 := rfl
  rw [e16] at s1 hO
  have hdl : l.length - 24 = (l.drop 24).length := (List.length_drop ..).symm
  rw [hdl] at s3 hC
  have f1 : (fromF l).n = of8 (l.take 8) := rfl
  have f2 : (fromF l).text = l.drop 24 := rfl
  have f3 : (fromF l).tag = ofF ((l.drop 8).take 16) := rfl
  rw [f1, f2, f3]
  generalize of8 (l.take 8) = n at *
  generalize ofF ((l.drop 8).take 16) = T at *
  generalize l.drop 24 = out at *
  have z1 : (24 : Int) ≤ (l.length : Int) := by omega
  generalize l.length = m at *
  have X0 : Fx w (w.alloc (.cells zBx 58)) [(w.heap.size, 58, zBx)] [] [] := (Fx.nil w).newB w.heap.size rfl zBx 58
  replace X0 := hide X0; replace hO := hide hO; replace hN := hide hN; replace hC := hide hC
  clear h hl hl2 b1 b2 b3 e16 hdl f1 f2 f3
  go_enter Tryd.func29, Tryd.ntmps29
  go_upto_region 8 with (first
    | (go_at_call 42; refine (unhide hO _ (unhide X0).bl).mono ?_; rintro e w2 ⟨rfl, hb2⟩
       have X2 : Fx w (w2.alloc (.cells (stC T) 24)) [(w.heap.size, 58, zBx), (w2.heap.size, 24, stC T)] [] [] := ((unhide X0).call hb2).newB w2.heap.size rfl (stC T) 24
       have l2 : w.heap.size < w2.heap.size := (((unhide X0).call hb2).get 0 rfl).lt
       replace X2 := hide X2
       clear hb2)
    | fail)
  generalize w2.heap.size = g2 at *
  generalize World.alloc w2 _ = W at *
  have k0 : w.heap.size < W.heap.size := ((unhide X2).get 0 rfl).lt
  have k2 : g2 < W.heap.size := ((unhide X2).get 1 rfl).lt
  have t0 : W.cell? ⟨g2, 0, none⟩ = some (u32v T.a) := ((unhide X2).get 1 rfl).cell 0
  have t1 : W.cell? ⟨g2, 1, none⟩ = some (u32v T.b) := ((unhide X2).get 1 rfl).cell 1
  have t2 : W.cell? ⟨g2, 2, none⟩ = some (u32v T.c) := ((unhide X2).get 1 rfl).cell 2
  have t3 : W.cell? ⟨g2, 3, none⟩ = some (u32v T.d) := ((unhide X2).get 1 rfl).cell 3
  have n1 : ¬ g2 = w.heap.size := by omega
  have n2 : ¬ w.heap.size = g2 := by omega
  go_region_held3 (fun W => W.cell? ⟨g2, 0, none⟩ = some (u32v T.a) ∧ W.cell? ⟨g2, 1, none⟩ = some (u32v T.b) ∧ W.cell? ⟨g2, 2, none⟩ = some (u32v T.c) ∧ W.cell? ⟨g2, 3, none⟩ = some (u32v T.d)) (first | exact ⟨by with_reducible assumption, by with_reducible assumption, by with_reducible assumption, by with_reducible assumption⟩ | exact ⟨by go_simp, by go_simp, by go_simp, by go_simp⟩)
    (first
    | (go_at_call 43; refine (unhide hN _ (unhide X2).drew.bl).mono ?_; rintro e w5 ⟨rfl, rfl⟩)
    | (go_at_call 21; refine (unhide hC _ (unhide X2).drew.bl).mono ?_; rintro e w6 ⟨A6, c6, rfl, o6, hb6⟩
       have X6 : Fx w w6 [(w.heap.size, 58, zBx), (g2, 24, stC T)] [(w.heap.size, .slice A6 out.length c6, out)] [] := Fx.addR (Fx.call (unhide X2).drew hb6) (ownsRow_mono o6 (unhide X2).bl.size) (Fx.call (unhide X2).drew hb6).bl.size
       have k6 : w.heap.size < w6.heap.size := (X6.get 0 rfl).lt
       have f0 : w6.cell? ⟨g2, 0, none⟩ = some (u32v T.a) := (X6.get 1 rfl).cell 0
       have f1 : w6.cell? ⟨g2, 1, none⟩ = some (u32v T.b) := (X6.get 1 rfl).cell 1
       have f2 : w6.cell? ⟨g2, 2, none⟩ = some (u32v T.c) := (X6.get 1 rfl).cell 2
       have f3 : w6.cell? ⟨g2, 3, none⟩ = some (u32v T.d) := (X6.get 1 rfl).cell 3
       have z0 : w6.cell? ⟨w.heap.size, 0, none⟩ = some (.int .u64 0) := (X6.get 0 rfl).cell 0
       have z1 : w6.cell? ⟨w.heap.size, 1, none⟩ = some (.slice none 0 0) := (X6.get 0 rfl).cell 1
       have z2 : w6.cell? ⟨w.heap.size, 2, none⟩ = some (.int .u32 0) := (X6.get 0 rfl).cell 2
       have z3 : w6.cell? ⟨w.heap.size, 3, none⟩ = some (.int .u32 0) := (X6.get 0 rfl).cell 3
       have z4 : w6.cell? ⟨w.heap.size, 4, none⟩ = some (.int .u32 0) := (X6.get 0 rfl).cell 4
       have z5 : w6.cell? ⟨w.heap.size, 5, none⟩ = some (.int .u32 0) := (X6.get 0 rfl).cell 5
       have r0 : w6.frozen? ⟨w.heap.size, 0, none⟩ = false := (X6.get 0 rfl).frozen 0
       have r1 : w6.frozen? ⟨w.heap.size, 1, none⟩ = false := (X6.get 0 rfl).frozen 1
       have r2 : w6.frozen? ⟨w.heap.size, 2, none⟩ = false := (X6.get 0 rfl).frozen 2
       have r3 : w6.frozen? ⟨w.heap.size, 3, none⟩ = false := (X6.get 0 rfl).frozen 3
       have r4 : w6.frozen? ⟨w.heap.size, 4, none⟩ = false := (X6.get 0 rfl).frozen 4
       have r5 : w6.frozen? ⟨w.heap.size, 5, none⟩ = false := (X6.get 0 rfl).frozen 5
       replace X6 := hide X6
       clear o6 hb6))
  go_wp2_with (fail)
  exact ret_b2 rfl w.heap.size (bxC n (.slice A6 out.length c6) T) (.int .i64 0) rfl rfl rfl (Blk.set6 ((unhide X6).get 0 rfl)) rfl ⟨A6, c6, rfl, own_set6 ((unhide X6).get 0 rfl) ((unhide X6).own 0 rfl), below_set6 (unhide X6).bl (Nat.le_refl _)⟩
end Go.Proofs.YthkccpemgmpadaaDoor

namespace Go.Proofs.YthkccpemgmpadaaDoor
set_option maxRecDepth 100000
open Go.RowKit

/-- Are two boxes the same? -/
def sameX (x y : Bx) : Bool := decide (x.n = y.n) && sameS x.tag y.tag && decide (x.text = y.text)
theorem sameX_iff {x y : Bx} : sameX x y = true ↔ x = y := by
  cases x; cases y
  simp [sameX, sameS_iff]
  constructor
  · rintro ⟨⟨a, b⟩, c⟩; exact ⟨a, c, b⟩
  · rintro ⟨a, c, b⟩; exact ⟨⟨a, b⟩, c⟩
theorem n64_beq (a b : Nx) : (n64 a == n64 b) = decide (a = b) := by
  rw [Bool.eq_iff_iff, beq_iff_eq, decide_eq_true_iff]
  exact ⟨n64_inj, fun h => by rw [h]⟩
section
attribute [local go_sem] guard24
end
end Go.Proofs.YthkccpemgmpadaaDoor

namespace Go.Proofs.YthkccpemgmpadaaDoor
set_option maxRecDepth 100000
open Go.RowKit Go.ChangeShapes Go.WideShapes Go.ChangeAt Go.Deep Go.Joins

section
variable {H : Type} {enc : TypeId × Value → H} {P : Program} {w : World} {base : Nat} {spare : Nat → Bool} {held : Bool}
/-- A cell's number as a byte. -/
theorem u8v_of {z : Int} (h : (Lit.int .u8 z).wf = true) : Value.int .u8 z = u8v (UInt8.ofNat z.toNat) := by
  have hz : 0 ≤ z ∧ z < 256 := by
    have e : IntKind.u8.min ≤ z ∧ z ≤ IntKind.u8.max := by simpa [Lit.wf] using h
    have e1 : IntKind.u8.min = 0 := by decide
    have e2 : IntKind.u8.max = 255 := by decide
    omega
  have : n8 (UInt8.ofNat z.toNat) = z := by
    unfold n8
    rw [UInt8.toNat_ofNat']
    omega
  show Value.int .u8 z = .int .u8 (n8 _)
  rw [this]
theorem spot_none {w : World} {a : Addr} {u : Value} (h : w.cell? (a.add 0) = some u) : a.spot = none := by
  have h1 := World.cell?_spot h
  unfold Addr.add at h1
  simpa using h1

/-- What came in as a slice of bytes reads as bytes. -/
theorem open_bs {t e : TypeId} {fuel : Nat} {cs : List Value} {x : DataW H × List MemPlace} (ht : P.underlying t = some (.slice e)) (he : P.underlying e = some (.int .u8)) (hc : P.cellsOf e = 1)
    (h : DataW.trod enc P w base spare held fuel t cs = some x) : ∃ A c l, cs = [.slice A l.length c] ∧ Bs 0 w.heap.size w (.slice A l.length c) l := by
  rcases open_ints ht he hc h with ⟨rfl, _⟩ | ⟨a, len, cap, zs, rfl, _, hl, hm, hz, _, hcell, hwz⟩
  · exact ⟨none, 0, [], rfl, none, 0, rfl, by simp, by omega, fun h0 => absurd h0 (by simp)⟩
  · have hzl : len ≤ zs.length := by rw [hz]; split <;> omega
    have hll : ((zs.take len).map fun z => UInt8.ofNat z.toNat).length = len := by simp [hzl]
    unfold maxLen at hm
    refine ⟨some a, cap, (zs.take len).map fun z => UInt8.ofNat z.toNat, by rw [hll], some a, cap, rfl, by omega, by omega, fun h0 => ?_⟩
    obtain ⟨b, off, spot⟩ := a
    have hc0 := hcell 0 (by omega)
    obtain rfl : spot = none := spot_none hc0
    have hb := World.block_lt_of_cell? w _ hc0
    rw [add_none] at hb
    refine ⟨b, off, rfl, Nat.zero_le _, hb, fun i hi => ?_⟩
    have hi' : i < zs.length := by omega
    have hci := hcell i hi'
    have hw := hwz zs[i] (List.getElem_mem _)
    have hg : zs.getD i 0 = zs[i] := by simp [List.getD_eq_getElem?_getD, hi']
    rw [hg, u8v_of hw, add_none] at hci
    rw [hci]
    simp

/-- A cell's number as a register. -/
theorem u32v_of {z : Int} (h : (Lit.int .u32 z).wf = true) : Value.int .u32 z = u32v (BitVec.ofInt 32 z) := by
  have hz : 0 ≤ z ∧ z < 4294967296 := by
    have e : IntKind.u32.min ≤ z ∧ z ≤ IntKind.u32.max := by simpa [Lit.wf] using h
    have e1 : IntKind.u32.min = 0 := by decide
    have e2 : IntKind.u32.max = 4294967295 := by decide
    omega
  obtain ⟨n, rfl⟩ := Int.eq_ofNat_of_zero_le hz.1
  rw [BitVec.ofInt_natCast, n32_lit n (by omega)]

/-- A parameter that is a slice of bytes. -/
theorem open_bytes {r : Reach} {b0 : Nat} {v : Value} {d : DataW H} {p : List MemPlace} {t e : TypeId} (ht : P.underlying t = some (.slice e)) (he : P.underlying e = some (.int .u8)) (hc : P.cellsOf e = 1)
    (hv : Value.okWide P w r b0 t v) (h : DataW.Trod enc P w base spare held t v d p) : ∃ l, Bs 0 w.heap.size w v l := by
  obtain ⟨a1, n1, c1, rfl⟩ := okWide_slice ht hv
  obtain ⟨fuel, hf⟩ := h
  obtain ⟨A, c, l, hcs, hb⟩ := open_bs ht he hc hf
  have e : Value.slice a1 n1 c1 = .slice A l.length c := by simpa [Value.cells] using hcs
  rw [e]
  exact ⟨l, hb⟩

theorem okWide_array {t e : TypeId} {n : Nat} {r : Reach} {b0 : Nat} {v : Value} (ht : P.underlying t = some (.array n e)) (h : Value.okWide P w r b0 t v) : ∃ cs, v = .agg cs ∧ cs.size = P.cellsOf t := by
  simp only [Value.okWide, ht] at h
  obtain ⟨cs, h1, h2, _⟩ := h
  exact ⟨cs, h1, h2⟩
/-- A parameter that is a state. -/
theorem open_state {r : Reach} {b0 : Nat} {v : Value} {d : DataW H} {p : List MemPlace} {t e : TypeId} (ht : P.underlying t = some (.array 4 e)) (he : P.underlying e = some (.int .u32)) (hc : P.cellsOf e = 1) (hct : P.cellsOf t = 4)
    (hv : Value.okWide P w r b0 t v) (h : DataW.Trod enc P w base spare held t v d p) : ∃ s, v = stV s := by
  obtain ⟨cs, rfl, hsz⟩ := okWide_array ht hv
  rw [hct] at hsz
  obtain ⟨fuel, hf⟩ := h
  obtain ⟨xs, m, rfl, hx, hlen, hn, hel⟩ := DataW.trod_array ht hf
  rw [hc] at hel
  have key : ∀ i, i < 4 → ∃ x : Reg, (Value.agg cs).cells.toList[i]? = some (u32v x) := by
    intro i hi
    have hxi : i < xs.length := by omega
    have h1 := hel i hi
    rw [Nat.mul_one, List.getElem?_eq_getElem hxi] at h1
    obtain ⟨k, e1, e2, hw⟩ := DataW.trod_int he h1
    refine ⟨BitVec.ofInt 32 k, ?_⟩
    have h4 : (((Value.agg cs).cells.toList.drop i).take 1)[0]? = some (Value.int .u32 k) := by rw [e1]; rfl
    rw [List.getElem?_take, if_pos (by omega), List.getElem?_drop, Nat.add_zero] at h4
    rw [h4, u32v_of hw]
  obtain ⟨x0, k0⟩ := key 0 (by omega)
  obtain ⟨x1, k1⟩ := key 1 (by omega)
  obtain ⟨x2, k2⟩ := key 2 (by omega)
  obtain ⟨x3, k3⟩ := key 3 (by omega)
  have hcs : (Value.agg cs).cells = cs := rfl
  rw [hcs] at k0 k1 k2 k3
  refine ⟨⟨x0, x1, x2, x3⟩, ?_⟩
  congr 1
  apply Array.ext
  · rw [hsz]; rfl
  · intro i h1 h2
    have hi : i < 4 := by omega
    rw [Array.getElem?_toList] at k0 k1 k2 k3
    match i, hi with
    | 0, _ => rw [Array.getElem?_eq_getElem h1] at k0; exact Option.some.inj k0
    | 1, _ => rw [Array.getElem?_eq_getElem h1] at k1; exact Option.some.inj k1
    | 2, _ => rw [Array.getElem?_eq_getElem h1] at k2; exact Option.some.inj k2
    | 3, _ => rw [Array.getElem?_eq_getElem h1] at k3; exact Option.some.inj k3
end
theorem own : ownKnob Tryd.prog.godebug = none := by kernel_rfl
theorem laidOut : laidOutB Tryd.prog = true := by kernel_rfl
theorem cells5 : Tryd.prog.cellsOf 5 = 1 := by kernel_rfl
theorem cells22 : Tryd.prog.cellsOf 22 = 1 := by kernel_rfl
theorem cells24 : Tryd.prog.cellsOf 24 = 4 := by kernel_rfl
theorem cells3 : Tryd.prog.cellsOf 3 = 1 := by kernel_rfl
theorem gTab : Tryd.prog.globalNamed "tansy/perm.turns" = some 0 := by kernel_rfl
theorem tTab : (Tryd.prog.globals[0]?).map (·.type) = some 158 := by kernel_rfl
/-- What the row lists. -/
def laidL : List (String × DataW Unit) := [("tansy/perm.turns", Rows.laid_tansy_perm_turns)]

theorem door_met (os : Os) (args : Array Value) : laidMetH Tryd.prog laidL ((World.doorLaid Tryd.prog 14 os).forCall (fun _ _ => 0) ⟨#[], args, []⟩).memory :=
  laidMetH_of_parts3 (fuel := 8) (laidMet_of_run' 8 (by kernel_rfl) (by kernel_rfl)) (by kernel_rfl) (by kernel_rfl)

theorem tab_of_laid {W : World} (h : laidMetH Tryd.prog laidL W) : Tab W := by
  rw [MakeChecks.laidMetH_plain _ _ _ (by kernel_rfl)] at h
  obtain ⟨ps, ⟨g0, t0, cs0, f0, p0, q0, hg0, ht0, hv0, hd0, _, _⟩, _, _⟩ := h
  obtain rfl := Option.some.inj (gTab.symm.trans hg0)
  obtain rfl := Option.some.inj (tTab.symm.trans ht0)
  obtain ⟨xs, m1, rfl, hx1, hlen, hn3, hel⟩ := DataW.trod_array Tryd.underlying158 hd0
  simp only [Prod.mk.injEq] at hx1
  have c3 := cells3
  let L : List Int := [16, 12, 8, 7]
  have hlist : (Rows.laid_tansy_perm_turns : DataW Unit) = .agg (L.map fun n : Int => DataW.lit (Lit.int .i64 n)) := by rfl
  have hx := hlist.symm.trans hx1.1
  injection hx with hx
  have key : ∀ i (hi : i < 4), W.cell? ⟨0, i, none⟩ = some (.int .i64 (L[i]'hi)) := by
    intro i hi
    have hxi : i < xs.length := by omega
    have h1 := hel i hi
    rw [c3, Nat.mul_one, List.getElem?_eq_getElem hxi] at h1
    obtain ⟨k, e1, e2, _⟩ := DataW.trod_int Tryd.underlying3 h1
    have htl : i < L.length := hi
    have h2 : (xs.map (·.1))[i]? = some (DataW.lit (Lit.int .i64 (L[i]'hi))) := by
      rw [← hx, List.getElem?_map, List.getElem?_eq_getElem htl]
      rfl
    rw [List.getElem?_map, List.getElem?_eq_getElem hxi, e2] at h2
    have hk : k = L[i]'hi := by simpa using h2
    have hv := World.var?_cell hg0 hv0 i
    rw [hv]
    have h3 : cs0.toList[i]? = some (.int .i64 k) := by
      have h4 : ((cs0.toList.drop i).take 1)[0]? = some (Value.int .i64 k) := by rw [e1]; rfl
      rw [List.getElem?_take, if_pos (by omega), List.getElem?_drop, Nat.add_zero] at h4
      exact h4
    rw [Array.getElem?_toList] at h3
    rw [h3, hk]
  have k0 := key 0 (by omega)
  exact ⟨World.block_lt_of_cell? W _ k0, k0, key 1 (by omega), key 2 (by omega), key 3 (by omega)⟩
end Go.Proofs.YthkccpemgmpadaaDoor

namespace Go.Proofs.YthkccpemgmpadaaDoor
set_option maxRecDepth 100000
open Go.RowKit Go.ChangeShapes Go.WideShapes Go.ChangeAt Go.Deep Go.Joins

theorem u64v_of {z : Int} (h : (Lit.int .u64 z).wf = true) : Value.int .u64 z = u64v (BitVec.ofInt 64 z) := by
  have hz : 0 ≤ z ∧ z < 18446744073709551616 := by
    have e : IntKind.u64.min ≤ z ∧ z ≤ IntKind.u64.max := by simpa [Lit.wf] using h
    have e1 : IntKind.u64.min = 0 := by decide
    have e2 : IntKind.u64.max = 18446744073709551615 := by decide
    omega
  obtain ⟨n, rfl⟩ := Int.eq_ofNat_of_zero_le hz.1
  rw [BitVec.ofInt_natCast, n64_lit n (by omega)]
section
variable {H : Type} {enc : TypeId × Value → H} {w : World} {base : Nat} {spare : Nat → Bool} {held : Bool}
theorem open_st {fuel : Nat} {cs : List Value} {x : DataW H × List MemPlace} (h : DataW.trod enc Tryd.prog w base spare held fuel 24 cs = some x) : ∃ s : St, cs = [u32v s.a, u32v s.b, u32v s.c, u32v s.d] := by
  obtain ⟨xs, m, rfl, hx, hlen, hn, hel⟩ := DataW.trod_array Tryd.underlying24 h
  rw [cells22] at hel
  rw [cells24] at hlen
  match cs, hlen with
  | [a, b, c, d], _ =>
    have key : ∀ i, i < 4 → ∃ y : Reg, ([a, b, c, d] : List Value)[i]? = some (u32v y) := by
      intro i hi
      have hxi : i < xs.length := by omega
      have h1 := hel i hi
      rw [Nat.mul_one, List.getElem?_eq_getElem hxi] at h1
      obtain ⟨k, e1, e2, hw⟩ := DataW.trod_int Tryd.underlying22 h1
      refine ⟨BitVec.ofInt 32 k, ?_⟩
      have h4 : ((([a, b, c, d] : List Value).drop i).take 1)[0]? = some (Value.int .u32 k) := by rw [e1]; rfl
      rw [List.getElem?_take, if_pos (by omega), List.getElem?_drop, Nat.add_zero] at h4
      rw [h4, u32v_of hw]
    obtain ⟨y0, k0⟩ := key 0 (by omega)
    obtain ⟨y1, k1⟩ := key 1 (by omega)
    obtain ⟨y2, k2⟩ := key 2 (by omega)
    obtain ⟨y3, k3⟩ := key 3 (by omega)
    refine ⟨⟨y0, y1, y2, y3⟩, ?_⟩
    simp at k0 k1 k2 k3
    rw [k0, k1, k2, k3]
theorem open_u64 {fuel : Nat} {cs : List Value} {x : DataW H × List MemPlace} (h : DataW.trod enc Tryd.prog w base spare held fuel 25 cs = some x) : ∃ n : Nx, cs = [u64v n] := by
  obtain ⟨k, e1, e2, hw⟩ := DataW.trod_int Tryd.underlying25 h
  exact ⟨BitVec.ofInt 64 k, by rw [e1, u64v_of hw]⟩
theorem cells27 : Tryd.prog.cellsOf 27 = 5 := by kernel_rfl
theorem cells30 : Tryd.prog.cellsOf 58 = 6 := by kernel_rfl
theorem cells25 : Tryd.prog.cellsOf 25 = 1 := by kernel_rfl
theorem cells28 : Tryd.prog.cellsOf 31 = 1 := by kernel_rfl
/-- A parameter that is a ring. -/
theorem open_ring {r : Reach} {b0 : Nat} {v : Value} {d : DataW H} {p : List MemPlace} (hv : Value.okWide Tryd.prog w r b0 27 v) (h : DataW.Trod enc Tryd.prog w base spare held 27 v d p) : ∃ (s : St) (n : Nx), v = rgV s n := by
  obtain ⟨cs, rfl, hsz⟩ := okWide_struct Tryd.underlying27 hv
  rw [cells27] at hsz
  obtain ⟨fuel, hf⟩ := h
  obtain ⟨y0, y1, n, _, hl, h0, h1⟩ := trod_struct2 Tryd.underlying27 hf
  have hcs : (Value.agg cs).cells = cs := rfl
  rw [hcs] at h0 h1
  simp only [cells24, cells25] at h0 h1
  obtain ⟨s, es⟩ := open_st h0
  obtain ⟨k, ek⟩ := open_u64 h1
  refine ⟨s, k, ?_⟩
  have hll : cs.toList.length = 5 := by simpa using hsz
  have : cs.toList = [u32v s.a, u32v s.b, u32v s.c, u32v s.d, u64v k] := by
    rw [← List.take_append_drop 4 cs.toList]
    rw [List.drop_zero] at es
    rw [List.take_of_length_le (by simp; omega)] at ek
    rw [es, ek]; rfl
  show Value.agg cs = .agg _
  rw [← Array.toArray_toList (xs := cs), this]
theorem trod_struct3 {t : TypeId} {f0 f1 f2 : Field} {fuel : Nat} {cs : List Value} {x : DataW H × List MemPlace} (ht : Tryd.prog.underlying t = some (.struct #[f0, f1, f2])) (h : DataW.trod enc Tryd.prog w base spare held fuel t cs = some x) :
    ∃ y0 y1 y2 n, x = (.agg [y0.1, y1.1, y2.1], y0.2 ++ y1.2 ++ y2.2) ∧ cs.length = Tryd.prog.cellsOf t ∧ DataW.trod enc Tryd.prog w base spare held n f0.type ((cs.drop f0.offset).take (Tryd.prog.cellsOf f0.type)) = some y0 ∧
      DataW.trod enc Tryd.prog w base spare held n f1.type ((cs.drop f1.offset).take (Tryd.prog.cellsOf f1.type)) = some y1 ∧ DataW.trod enc Tryd.prog w base spare held n f2.type ((cs.drop f2.offset).take (Tryd.prog.cellsOf f2.type)) = some y2 := by
  obtain ⟨xs, n, _, rfl, hl, hlen, hf⟩ := DataW.trod_struct ht h
  match xs, hlen with
  | [y0, y1, y2], _ => exact ⟨y0, y1, y2, n, by simp, hl, by simpa using hf 0 f0 rfl, by simpa using hf 1 f1 rfl, by simpa using hf 2 f2 rfl⟩
/-- A parameter that is a box. -/
theorem open_box {r : Reach} {b0 : Nat} {v : Value} {d : DataW H} {p : List MemPlace} (hv : Value.okWide Tryd.prog w r b0 58 v) (h : DataW.Trod enc Tryd.prog w base spare held 58 v d p) : ∃ (x : Bx) (u : Value), v = bxV x.n u x.tag ∧ Bs 0 w.heap.size w u x.text := by
  obtain ⟨cs, rfl, hsz⟩ := okWide_struct Tryd.underlying58 hv
  rw [cells30] at hsz
  obtain ⟨fuel, hf⟩ := h
  obtain ⟨y0, y1, y2, n, _, hl, h0, h1, h2⟩ := trod_struct3 Tryd.underlying58 hf
  have hcs : (Value.agg cs).cells = cs := rfl
  rw [hcs] at h0 h1 h2
  simp only [cells24, cells25, cells28] at h0 h1 h2
  obtain ⟨k, ek⟩ := open_u64 h0
  obtain ⟨A, c, l, el, hb⟩ := open_bs Tryd.underlying31 Tryd.underlying5 cells5 h1
  obtain ⟨s, es⟩ := open_st h2
  refine ⟨⟨k, l, s⟩, .slice A l.length c, ?_, hb⟩
  have hll : cs.toList.length = 6 := by simpa using hsz
  have : cs.toList = [u64v k, .slice A l.length c, u32v s.a, u32v s.b, u32v s.c, u32v s.d] := by
    generalize cs.toList = L at *
    match L, hll with
    | [x0, x1, x2, x3, x4, x5], _ =>
      simp at ek el es
      obtain ⟨e2, e3, e4, e5⟩ := es
      rw [ek, el, e2, e3, e4, e5]
  show Value.agg cs = .agg _
  rw [← Array.toArray_toList (xs := cs), this]
end
end Go.Proofs.YthkccpemgmpadaaDoor

namespace Go.Proofs.YthkccpemgmpadaaDoor
set_option maxRecDepth 100000
open Go.RowKit

/-- The slice value 'v' reads as the texts 'l'. -/
def Bss (hi : Nat) (w : World) (v : Value) (l : List (List UInt8)) : Prop :=
  ∃ A c, v = .slice A l.length c ∧ ∀ i x, l[i]? = some x → ∃ b off Ai ci, A = some ⟨b, off, none⟩ ∧ b < hi ∧ w.cell? ⟨b, off + i, none⟩ = some (.slice Ai x.length ci) ∧ Bs 0 hi w (.slice Ai x.length ci) x
/-- A number, and some more. -/
def upN (n : Nx) (k : Nat) : Nx := n + BitVec.ofNat 64 k
theorem upN_zero (n : Nx) : upN n 0 = n := by simp [upN]
theorem upN_succ (n : Nx) (k : Nat) : upN n k + 1#64 = upN n (k + 1) := by
  unfold upN
  rw [BitVec.add_assoc, ← BitVec.ofNat_add]
theorem upN_wrap (n : Nx) (k : Nat) (h : k < 18446744073709551616) : IntKind.u64.wrap (n64 n + (k : Int)) = n64 (upN n k) := by
  rw [n64_lit k h, IntKind.wrap_u64]
  exact q_add n _
theorem upN_mod (n : Nx) (k : Nat) (h : k < 18446744073709551616) : (n64 n + (k : Int)) % 18446744073709551616 = n64 (upN n k) := by
  rw [n64_lit k h]
  exact q_add n _
theorem upN_ne (n : Nx) (k : Nat) (h : n64 n ≤ 4611686018427387904) (hk : k ≤ 20) : upN n k ≠ 18446744073709551615#64 := by
  intro e
  have := upN_mod n k (by omega)
  rw [e, full_eq] at this
  have h0 : 0 ≤ n64 n := by unfold n64; omega
  omega
end Go.Proofs.YthkccpemgmpadaaDoor

namespace Go.Proofs.YthkccpemgmpadaaDoor
set_option maxRecDepth 100000
open Go.RowKit Go.ChangeShapes Go.WideShapes Go.ChangeAt Go.Deep Go.Joins
section
variable {H : Type} {enc : TypeId × Value → H} {w : World} {base : Nat} {spare : Nat → Bool} {held : Bool}
/-- A parameter that is a list of texts. -/
theorem open_list {r : Reach} {b0 : Nat} {v : Value} {d : DataW H} {p : List MemPlace} (hv : Value.okWide Tryd.prog w r b0 28 v) (h : DataW.Trod enc Tryd.prog w base spare held 28 v d p) : ∃ l, Bss w.heap.size w v l := by
  obtain ⟨a1, n1, c1, rfl⟩ := okWide_slice Tryd.underlying28 hv
  obtain ⟨fuel, hf⟩ := h
  have hcs : (Value.slice a1 n1 c1).cells.toList = [.slice a1 n1 c1] := rfl
  rw [hcs] at hf
  rcases open_slice Tryd.underlying28 hf with ⟨e, _⟩ | ⟨a, len, cap, m, n, D, Pl, e, _, hl, hm, hmm, _, hel⟩
  · simp only [List.cons.injEq, and_true] at e
    injection e with e1 e2 e3
    subst e1 e2 e3
    exact ⟨[], none, 0, rfl, fun i x hx => by simp at hx⟩
  · simp only [List.cons.injEq, and_true] at e
    injection e with e1 e2 e3
    subst e1 e2 e3
    have hml : n1 ≤ m := by rw [hmm]; split <;> omega
    have key : ∀ i, i < n1 → ∃ x : List UInt8, ∃ Ai ci, w.cell? (a.add (i * 1)) = some (.slice Ai x.length ci) ∧ Bs 0 w.heap.size w (.slice Ai x.length ci) x := by
      intro i hil
      obtain ⟨cs', hcs', ht'⟩ := hel i (by omega)
      rw [cells28] at hcs'
      obtain ⟨_, hcl, hat⟩ := World.cells?_some hcs'
      obtain ⟨Ai, ci, x, ex, hb⟩ := open_bs Tryd.underlying31 Tryd.underlying5 cells5 ht'
      have hc0 := hat 0 (by omega)
      subst ex
      refine ⟨x, Ai, ci, ?_, hb⟩
      have h0 : ∀ q : Addr, q.add 0 = q := fun q => by unfold Addr.add; rw [if_pos rfl]
      rw [h0] at hc0
      simpa using hc0
    let g : Nat → List UInt8 := fun i => if hi : i < n1 then (key i hi).choose else []
    have hg : ∀ i, i < n1 → ∃ Ai ci, w.cell? (a.add (i * 1)) = some (.slice Ai (g i).length ci) ∧ Bs 0 w.heap.size w (.slice Ai (g i).length ci) (g i) := fun i hi => by
      have := (key i hi).choose_spec
      simp only [g, hi, dif_pos]
      exact this
    have hll : ((List.range n1).map g).length = n1 := by simp
    refine ⟨(List.range n1).map g, some a, c1, by rw [hll], fun i x hx => ?_⟩
    have hi : i < n1 := by
      have := (List.getElem?_eq_some_iff.1 hx).1
      rwa [hll] at this
    have hxg : x = g i := by
      rw [List.getElem?_map, List.getElem?_range hi] at hx
      exact (Option.some.inj hx).symm
    subst hxg
    obtain ⟨Ai, ci, hc, hb⟩ := hg i hi
    obtain ⟨b, off, spot⟩ := a
    obtain rfl : spot = none := by
      obtain ⟨A0, c0, hc0, _⟩ := hg 0 (by omega)
      rw [Nat.zero_mul] at hc0
      exact spot_none hc0
    rw [add_none, Nat.mul_one] at hc
    exact ⟨b, off, Ai, ci, rfl, World.block_lt_of_cell? w _ hc, hc, hb⟩
end
end Go.Proofs.YthkccpemgmpadaaDoor

namespace Go.Proofs.YthkccpemgmpadaaDoor
set_option maxRecDepth 100000
open Go.RowKit

/-! ### the plain words of a block: packed, sealed, written, summed -/
/-- A text packed, as octets. -/
def pkU (b : List UInt8) : List UInt8 := (P.packT b).map fun z => UInt8.ofNat z.toNat
theorem le4_okB (n : Int) : P.okB (P.le4 n) := by
  intro x hx
  simp [P.le4] at hx
  omega
theorem packT_okB {b : List UInt8} (hb : b.length ≤ 65536) : P.okB (P.packT b) := P.okB_app (le4_okB _) (P.encT_okB (P.toksB_bits hb))
theorem octs_pkU {b : List UInt8} (hb : b.length ≤ 65536) : P.octs (pkU b) = P.packT b := by
  have h := packT_okB hb
  unfold pkU P.octs
  rw [List.map_map]
  conv => rhs; rw [← List.map_id (P.packT b)]
  refine List.map_congr_left fun z hz => ?_
  have hz' := h z hz
  show ((UInt8.ofNat z.toNat).toNat : Int) = z
  rw [UInt8.toNat_ofNat']
  have : z.toNat < 256 := by omega
  rw [Nat.mod_eq_of_lt (by simpa using this)]
  omega
theorem pkU_len (b : List UInt8) : (pkU b).length = (P.packT b).length := by simp [pkU]
theorem pkU_le {b : List UInt8} (hb : b.length ≤ 65536) : (pkU b).length ≤ 16 + 9 * b.length := by rw [pkU_len]; exact P.E.pack_len hb
/-- What a packed text tells. -/
def unpU (t : List UInt8) : List UInt8 × Int := P.unpackR (P.octs t) 65536
theorem unp_pk {b : List UInt8} (hb : b.length ≤ 65536) : unpU (pkU b) = (b, 0) := by
  unfold unpU
  rw [octs_pkU hb]
  have := P.unpack_pack hb (most := 65536) (by omega) [] (fun _ h => (nomatch h))
  simpa using this
/-- The box of a text. -/
def boxS (s : St) (n : Nx) (b : List UInt8) : Bx := ⟨n, hidF s n (pkU b), tagF s n (hidF s n (pkU b))⟩
/-- The block of a text. -/
def sealS (s : St) (n : Nx) (b : List UInt8) : List UInt8 := C.sealL (bytesF (boxS s n b))
theorem seal_len (s : St) (n : Nx) (b : List UInt8) : (sealS s n b).length = (pkU b).length + 28 := by
  unfold sealS
  rw [C.sealL_len, bytes_len]
  show (hidF s n (pkU b)).length + 24 + 4 = _
  rw [hid_len]
/-- What opening a box's octets tells. -/
def innerS (s : St) (t : List UInt8) : List UInt8 × Int :=
  if t.length < 24 then ([], 2)
  else if 65560 < t.length then ([], 3)
  else if sameS (tagF s (fromF t).n (fromF t).text) (fromF t).tag = true then (hidF s (fromF t).n (fromF t).text, 0) else ([], 8)
/-- What the sum's coat tells. -/
def sumS (b : List UInt8) : List UInt8 × Int :=
  if b.length < 4 then ([], 2)
  else if C.okO b (b.length - 4) then (b.take (b.length - 4), 0) else ([], 7)
/-- What opening a block tells. -/
def openS (s : St) (b : List UInt8) : List UInt8 × Int :=
  if 131072 < b.length then ([], 3)
  else if (sumS b).2 ≠ 0 then ([], (sumS b).2)
  else if (innerS s (sumS b).1).2 ≠ 0 then ([], (innerS s (sumS b).1).2)
  else unpU (innerS s (sumS b).1).1
theorem sum_seal (t : List UInt8) : sumS (C.sealL t) = (t, 0) := by
  unfold sumS
  have h := C.sealL_len t
  rw [if_neg (by omega), h, show t.length + 4 - 4 = t.length by omega, C.okO_seal, if_pos rfl, C.take_seal]
theorem inner_box (s : St) (n : Nx) (p : List UInt8) (hp : p.length ≤ 65536) : innerS s (bytesF ⟨n, hidF s n p, tagF s n (hidF s n p)⟩) = (p, 0) := by
  unfold innerS
  have h : (bytesF ⟨n, hidF s n p, tagF s n (hidF s n p)⟩).length = p.length + 24 := by rw [bytes_len]; show (hidF s n p).length + 24 = _; rw [hid_len]
  rw [from_bytes, if_neg (by omega), if_neg (by omega)]
  show (if sameS (tagF s n (hidF s n p)) (tagF s n (hidF s n p)) = true then (hidF s n (hidF s n p), 0) else (([] : List UInt8), (8 : Int))) = (p, 0)
  rw [sameS_self, if_pos rfl, hid_hid]
/-- P15.4: what was sealed is opened. -/
theorem open_seal (s : St) (n : Nx) {b : List UInt8} (hb : b.length ≤ 7000) : openS s (sealS s n b) = (b, 0) := by
  have hp := pkU_le (b := b) (by omega)
  have hl := seal_len s n b
  unfold openS
  rw [if_neg (by omega), show sumS (sealS s n b) = (bytesF (boxS s n b), 0) from sum_seal _, if_neg (by simp), show innerS s (bytesF (boxS s n b), (0 : Int)).1 = (pkU b, 0) from inner_box s n _ (by omega), if_neg (by simp)]
  exact unp_pk (by omega)
theorem inner_err (s : St) (t : List UInt8) (h : (innerS s t).2 ≠ 0) : innerS s t = ([], (innerS s t).2) := by
  revert h
  unfold innerS
  split
  · intro _; rfl
  · split
    · intro _; rfl
    · split
      · intro h; exact absurd rfl h
      · intro _; rfl
theorem sum_err (b : List UInt8) (h : (sumS b).2 ≠ 0) : sumS b = ([], (sumS b).2) := by
  revert h
  unfold sumS
  split
  · intro _; rfl
  · split
    · intro h; exact absurd rfl h
    · intro _; rfl

/-! ### where texts stand -/
/-- A piece: from where, how long, its sum. -/
structure Pc where
  at_ : Int
  len : Int
  sum : Reg
def pcC (p : Pc) : Array Value := #[.int .i64 p.at_, .int .i64 p.len, u32v p.sum]
def pcL (p : Pc) : List Value := [.int .i64 p.at_, .int .i64 p.len, u32v p.sum]
abbrev pcV (p : Pc) : Value := .agg #[.int .i64 p.at_, .int .i64 p.len, u32v p.sum]
/-- Where each of the texts stands, the first one at 'k'. -/
def pcsF (k : Nat) : List (List UInt8) → List Pc
  | [] => []
  | b :: r => ⟨k, b.length, C.sumR b⟩ :: pcsF (k + b.length) r
theorem pcs_len (k : Nat) (l : List (List UInt8)) : (pcsF k l).length = l.length := by
  induction l generalizing k with
  | nil => rfl
  | cons b r ih => simp [pcsF, ih]
theorem pcs_get (k : Nat) (l : List (List UInt8)) (i : Nat) (h : i < l.length) : (pcsF k l)[i]? = some ⟨((k + (l.take i).flatten.length : Nat) : Int), (l[i].length : Int), C.sumR l[i]⟩ := by
  induction l generalizing k i with
  | nil => cases h
  | cons b r ih =>
    cases i with
    | zero => simp [pcsF]
    | succ j =>
      have := ih (k + b.length) j (by simpa using h)
      simp only [pcsF, List.getElem?_cons_succ, List.getElem_cons_succ, List.take_succ_cons, List.flatten_cons, List.length_append]
      rw [this, show k + b.length + (List.take j r).flatten.length = k + (b.length + (List.take j r).flatten.length) by omega]
theorem pcs_snoc (k : Nat) (l : List (List UInt8)) (b : List UInt8) : pcsF k (l ++ [b]) = pcsF k l ++ [⟨((k + l.flatten.length : Nat) : Int), b.length, C.sumR b⟩] := by
  induction l generalizing k with
  | nil => simp [pcsF]
  | cons a r ih => simp [pcsF, ih, Nat.add_assoc]
/-- What stands where a piece tells, or why not. -/
def findE (t : List UInt8) (p : Pc) : Int :=
  if p.at_ < 0 ∨ p.len < 0 ∨ (t.length : Int) - p.at_ < p.len then 1
  else if C.sumR ((t.drop p.at_.toNat).take p.len.toNat) = p.sum then 0 else 7
def findT (t : List UInt8) (p : Pc) : List UInt8 := if findE t p = 0 then (t.drop p.at_.toNat).take p.len.toNat else []
/-- The first piece's error. -/
def testE (t : List UInt8) : List Pc → Int
  | [] => 0
  | p :: r => if findE t p ≠ 0 then findE t p else testE t r
def testS (s : St) (b : List UInt8) (l : List Pc) : Int := if (openS s b).2 ≠ 0 then (openS s b).2 else testE (openS s b).1 l
theorem cut_flat (l : List (List UInt8)) (i : Nat) (h : i < l.length) : (l.flatten.drop (l.take i).flatten.length).take l[i].length = l[i] := by
  have e : l.flatten = (l.take i).flatten ++ (l[i] ++ (l.drop (i + 1)).flatten) := by
    have h2 : l = l.take i ++ l[i] :: l.drop (i + 1) := by rw [← List.drop_eq_getElem_cons h, List.take_append_drop]
    have := congrArg List.flatten h2
    rw [List.flatten_append, List.flatten_cons] at this
    exact this
  rw [e, List.drop_left, List.take_left]
theorem flat_part (l : List (List UInt8)) (i : Nat) (h : i < l.length) : (l.take i).flatten.length + l[i].length ≤ l.flatten.length := by
  have h2 : l = l.take i ++ l[i] :: l.drop (i + 1) := by rw [← List.drop_eq_getElem_cons h, List.take_append_drop]
  have e : l.flatten.length = (l.take i).flatten.length + l[i].length + (l.drop (i + 1)).flatten.length := by
    have := congrArg (fun x => (List.flatten x).length) h2
    simp only [List.flatten_append, List.flatten_cons, List.length_append] at this
    omega
  omega
theorem find_pcs (l : List (List UInt8)) (i : Nat) (h : i < l.length) {p : Pc} (hp : (pcsF 0 l)[i]? = some p) : findE l.flatten p = 0 ∧ findT l.flatten p = l[i] ∧ p.at_ = ((l.take i).flatten.length : Nat) ∧ p.len = l[i].length := by
  rw [pcs_get 0 l i h, Nat.zero_add] at hp
  injection hp with hp
  subst hp
  have hc := cut_flat l i h
  have hf := flat_part l i h
  have e0 : findE l.flatten ⟨(((l.take i).flatten.length : Nat) : Int), (l[i].length : Int), C.sumR l[i]⟩ = 0 := by
    unfold findE
    rw [if_neg (by simp only []; omega)]
    simp only [Int.toNat_natCast]
    exact if_pos (congrArg C.sumR hc)
  refine ⟨e0, ?_, rfl, rfl⟩
  unfold findT
  rw [if_pos e0]
  simp only [Int.toNat_natCast]
  exact hc
theorem testE_zero {t : List UInt8} {l : List Pc} (h : ∀ p ∈ l, findE t p = 0) : testE t l = 0 := by
  induction l with
  | nil => rfl
  | cons p r ih =>
    unfold testE
    rw [if_neg (by rw [h p (by simp)]; simp)]
    exact ih fun q hq => h q (by simp [hq])
theorem test_pcs (l : List (List UInt8)) : testE l.flatten (pcsF 0 l) = 0 := testE_zero fun p hp => by
  obtain ⟨i, hi, e⟩ := List.getElem_of_mem hp
  have hi' : i < l.length := by rw [← pcs_len 0 l]; exact hi
  exact (find_pcs l i hi' (p := p) (by rw [List.getElem?_eq_getElem hi, e])).1
/-- P15.4: the test of what was built says that all are right. -/
theorem test_back (s : St) (n : Nx) {l : List (List UInt8)} (hl : l.flatten.length ≤ 7000) : testS s (sealS s n l.flatten) (pcsF 0 l) = 0 := by
  unfold testS
  rw [open_seal s n hl, if_neg (by simp)]
  exact test_pcs l
end Go.Proofs.YthkccpemgmpadaaDoor

namespace Go.Proofs.YthkccpemgmpadaaDoor
set_option maxRecDepth 100000
open Go.RowKit

/-- A call that answers a text of its own, and an error. -/
def Ans (R : List UInt8 × Int) (w : World) (e : Ending) (w' : World) : Prop :=
  ∃ A c, e = .returned (.tuple #[.slice A R.1.length c, .int .i64 R.2]) ∧ OwnB w' w.heap.size (.slice A R.1.length c) R.1 ∧ Below w.heap.size w w'
theorem Ans.none {R : List UInt8 × Int} {er : Int} {w w' : World} {e : Ending} (h : R = ([], er)) (he : e = .returned (.tuple #[.slice none 0 0, .int .i64 er])) (hb : Below w.heap.size w w') : Ans R w e w' := by
  subst h
  exact ⟨Option.none, 0, he, World.ownsRow_nil _ _ _ _, hb⟩
theorem own_nn {w : World} {base n : Nat} {v : Value} {l : List UInt8} (h : w.ownsRow base 5 1 v n (l.map u8v)) : n = l.length := by
  have := h.1
  simp at this; omega
theorem bs_C {lo hi : Nat} {w : World} {v : Value} {l : List UInt8} (h : Bs lo hi w v l) : C.Bs lo hi w v l := h
theorem bs_M {lo hi : Nat} {w : World} {v : Value} {l : List UInt8} (h : Bs lo hi w v l) : P.M.Bs lo hi w v l := h
theorem Pack_u (lo : Nat) (v : Value) (b : List UInt8) (w : World) (h : Bs lo w.heap.size w v b) (hl : b.length ≤ 1000) :
    Calls Tryd.prog 24 #[v] w (Ans (pkU b, 0) w) :=
  (P.Pack_good lo v b w (bs_M h) hl).mono fun e w' ⟨A, c, he, ho, hb⟩ => by
    rw [← octs_pkU (b := b) (by omega), P.octs_byc, P.octs_len] at ho
    rw [← pkU_len] at he
    exact ⟨A, c, he, ho, hb⟩
theorem Unpack_u (lo : Nat) (v : Value) (t : List UInt8) (w : World) (h : Bs lo w.heap.size w v t) (hl : t.length ≤ 1000000) :
    Calls Tryd.prog 32 #[v, .int .i64 65536] w (Ans (unpU t) w) :=
  (P.Unpack_any lo v (P.octs t) 65536 w (P.os_of (bs_M h)) (P.octs_ok t) (by rw [P.octs_len]; exact hl)).mono fun e w' ⟨A, n, c, he, ho, hb⟩ => by
    obtain rfl := own_nn (l := (P.unpackR (P.octs t) 65536).1) ho
    exact ⟨A, c, he, ho, hb⟩
theorem sum_u (lo hi : Nat) (v : Value) (l : List UInt8) (w : World) (h : Bs lo hi w v l) :
    Calls Tryd.prog 23 #[v] w fun e w' => e = .returned (u32v (C.sumR l)) ∧ w = w' := C.sum_any lo hi v l w (bs_C h)
theorem crcSeal_u (lo : Nat) (v : Value) (l : List UInt8) (w : World) (h : Bs lo w.heap.size w v l) (hL : l.length ≤ 900000) :
    Calls Tryd.prog 14 #[v] w fun e w' => ∃ A c, e = .returned (.slice A (C.sealL l).length c) ∧ OwnB w' w.heap.size (.slice A (C.sealL l).length c) (C.sealL l) ∧ Below w.heap.size w w' :=
  (C.seal_any lo v l w (bs_C h) hL).mono fun e w' ⟨A, c, he, ho, hb⟩ => by
    rw [← C.sealL_len] at he ho
    exact ⟨A, c, he, ho, hb⟩
theorem crcOpen_u (lo : Nat) (v : Value) (b : List UInt8) (w : World) (h : Bs lo w.heap.size w v b) (hL : b.length ≤ 900000) :
    Calls Tryd.prog 13 #[v] w (Ans (sumS b) w) := by
  by_cases h4 : b.length < 4
  · obtain ⟨A, c, rfl⟩ := h.form
    refine (C.open_short A _ c w h4).mono fun e w' ⟨he, hw⟩ => ?_
    subst hw
    exact Ans.none (er := 2) (by unfold sumS; rw [if_pos h4]) he (Below.refl _ _)
  · refine (C.open_any lo (b.length - 4) v b w (bs_C h) (by omega) (by omega)).mono fun e w' ⟨A, c, er, he, her, ho, hb⟩ => ?_
    cases hc : C.okO b (b.length - 4) with
    | true =>
      rw [hc] at he her ho
      simp only [↓reduceIte] at he her ho
      obtain rfl := her
      have hn : (b.take (b.length - 4)).length = b.length - 4 := by rw [List.length_take]; omega
      have e0 : sumS b = (b.take (b.length - 4), 0) := by unfold sumS; rw [if_neg h4, if_pos hc]
      unfold Ans
      rw [e0]
      refine ⟨A, c, by rw [hn]; exact he, ?_, hb⟩
      show w'.ownsRow w.heap.size 5 1 (.slice A (b.take (b.length - 4)).length c) (b.take (b.length - 4)).length _
      rw [hn]
      exact ho
    | false =>
      rw [hc] at he her ho
      simp only [Bool.false_eq_true, ↓reduceIte, List.take_zero] at he her ho
      obtain rfl := her
      have e0 : sumS b = ([], 7) := by unfold sumS; rw [if_neg h4, if_neg (by rw [hc]; simp)]
      unfold Ans
      rw [e0]
      exact ⟨A, c, he, ho, hb⟩
end Go.Proofs.YthkccpemgmpadaaDoor

namespace Go.Proofs.YthkccpemgmpadaaDoor
set_option maxRecDepth 100000
open Go.RowKit

/-! ### what takes a box away: a closure over the key -/
set_option maxHeartbeats 1000000 in
theorem opener1_short (s : St) (g : Nat) (v : Value) (t : List UInt8) (w : World) (h : Bs 0 w.heap.size w v t) (hl : t.length < 24) :
    Calls Tryd.prog 28 #[v, .pointer (some ⟨g, 0, none⟩)] w (Ans (innerS s t) w) := by
  have hF := From_short 0 v t w h hl
  have hR : innerS s t = ([], 2) := by unfold innerS; rw [if_pos hl]
  replace hF := hide hF; replace hR := hide hR
  clear h hl
  go_enter Tryd.func28, Tryd.ntmps28
  go_wp2_with (first
    | (go_at_call 29; refine (unhide hF).mono ?_; rintro e w2 ⟨rfl, hb2⟩; replace hb2 := hide hb2)
    | fail)
  go_ret2
  exact Ans.none (unhide hR) rfl (bl_alloc (unhide hb2) _)
set_option maxHeartbeats 1000000 in
theorem opener1_good (s : St) (g : Nat) (v : Value) (t : List UInt8) (w : World) (ht : Tab w) (hg : Blk w g 24 (stC s)) (h : Bs 0 w.heap.size w v t) (hl : 24 ≤ t.length) (hl2 : t.length ≤ 60000) :
    Calls Tryd.prog 28 #[v, .pointer (some ⟨g, 0, none⟩)] w (Ans (innerS s t) w) := by
  have hF := From_good v t w h hl (by omega)
  have hR : innerS s t = (if sameS (tagF s (fromF t).n (fromF t).text) (fromF t).tag = true then (hidF s (fromF t).n (fromF t).text, 0) else ([], 8)) := by unfold innerS; rw [if_neg (by omega), if_neg (by omega)]
  have hx : (fromF t).text.length ≤ 65536 := by show (t.drop 24).length ≤ _; rw [List.length_drop]; omega
  have hO := fun v W (hb : Below w.heap.size w W) (h2 : Bs 0 W.heap.size W v (fromF t).text) => Open_any s (fromF t).n v (fromF t).text (fromF t).tag W (ht.below hb (Nat.le_refl _)) h2 hx
  have hH := hid_len s (fromF t).n (fromF t).text
  have gl := hg.lt
  generalize hidF s (fromF t).n (fromF t).text = H at *
  generalize tagF s (fromF t).n (fromF t).text = T at *
  generalize fromF t = x at *
  obtain ⟨xn, xl, xt⟩ := x
  simp only [] at hF hO hR hH hx
  cases hz : sameS T xt with
  | true =>
    rw [hz] at hO hR
    simp only [↓reduceIte] at hO hR
    replace hF := hide hF; replace hR := hide hR; replace hO := hide hO; replace hg := hide hg; replace hH := hide hH
    clear h hl hl2 hx ht hz
    generalize xl.length = m at *
    go_enter Tryd.func28, Tryd.ntmps28
    go_wp2_with (first
      | (go_at_call 29; refine (unhide hF).mono ?_; rintro e w2 ⟨A2, c2, rfl, o2, hb2⟩
         have y2 := hide (Bs.of_own0 o2)
         have g2 := (unhide hg).call hb2
         have g0 : w2.cell? ⟨g, 0, none⟩ = some (u32v s.a) := g2.cell 0
         have g1 : w2.cell? ⟨g, 1, none⟩ = some (u32v s.b) := g2.cell 1
         have g3 : w2.cell? ⟨g, 2, none⟩ = some (u32v s.c) := g2.cell 2
         have g4 : w2.cell? ⟨g, 3, none⟩ = some (u32v s.d) := g2.cell 3
         have gl2 : g < w2.heap.size := g2.lt
         replace hb2 := hide hb2
         clear o2 g2)
      | (go_at_call 30; refine (unhide hO _ _ (bl_alloc (unhide hb2) _) ((unhide y2).to (bl_alloc (Below.refl _ _) _))).mono ?_; rintro e w3 ⟨⟨A3, c3, rfl, o3⟩, hb3⟩
         have b3 := hide (bl_call (bl_alloc (unhide hb2) _) hb3)
         have o3' := hide (ownsRow_mono (base' := w.heap.size) o3 (bl_alloc (unhide hb2) _).size)
         clear o3 hb3)
      | fail)
    go_ret2
    unfold Ans
    rw [unhide hR]
    exact ⟨A3, c3, by rw [unhide hH]; rfl, by have := unhide o3'; rw [← unhide hH] at this; exact this, unhide b3⟩
  | false =>
    rw [hz] at hO hR
    simp only [Bool.false_eq_true, ↓reduceIte] at hO hR
    replace hF := hide hF; replace hR := hide hR; replace hO := hide hO; replace hg := hide hg
    clear h hl hl2 hx ht hz hH
    generalize xl.length = m at *
    go_enter Tryd.func28, Tryd.ntmps28
    go_wp2_with (first
      | (go_at_call 29; refine (unhide hF).mono ?_; rintro e w2 ⟨A2, c2, rfl, o2, hb2⟩
         have y2 := hide (Bs.of_own0 o2)
         have g2 := (unhide hg).call hb2
         have g0 : w2.cell? ⟨g, 0, none⟩ = some (u32v s.a) := g2.cell 0
         have g1 : w2.cell? ⟨g, 1, none⟩ = some (u32v s.b) := g2.cell 1
         have g3 : w2.cell? ⟨g, 2, none⟩ = some (u32v s.c) := g2.cell 2
         have g4 : w2.cell? ⟨g, 3, none⟩ = some (u32v s.d) := g2.cell 3
         have gl2 : g < w2.heap.size := g2.lt
         replace hb2 := hide hb2
         clear o2 g2)
      | (go_at_call 30; refine (unhide hO _ _ (bl_alloc (unhide hb2) _) ((unhide y2).to (bl_alloc (Below.refl _ _) _))).mono ?_; rintro e w3 ⟨rfl, hb3⟩
         have b3 := hide (bl_call (bl_alloc (unhide hb2) _) hb3)
         clear hb3)
      | fail)
    go_ret2
    exact Ans.none (unhide hR) rfl (unhide b3)
theorem opener1_any (s : St) (g : Nat) (v : Value) (t : List UInt8) (w : World) (ht : Tab w) (hg : Blk w g 24 (stC s)) (h : Bs 0 w.heap.size w v t) (hl : t.length ≤ 60000) :
    Calls Tryd.prog 28 #[v, .pointer (some ⟨g, 0, none⟩)] w (Ans (innerS s t) w) := by
  by_cases h4 : t.length < 24
  · exact opener1_short s g v t w h h4
  · exact opener1_good s g v t w ht hg h (by omega) hl
set_option maxHeartbeats 400000 in
theorem opener2_any (lo : Nat) (v : Value) (t : List UInt8) (w : World) (h : Bs lo w.heap.size w v t) (hl : t.length ≤ 1000000) :
    Calls Tryd.prog 31 #[v] w (Ans (unpU t) w) := by
  have hU := Unpack_u lo v t w h hl
  obtain ⟨A, c, rfl⟩ := h.form
  unfold Ans at hU ⊢
  generalize unpU t = R at *
  obtain ⟨R1, R2⟩ := R
  replace hU := hide hU
  clear h hl
  go_enter Tryd.func31, Tryd.ntmps31
  go_wp2_with (first
    | (go_at_call 32; refine (unhide hU).mono ?_; rintro e w2 ⟨A2, c2, rfl, o2, hb2⟩; replace o2 := hide o2; replace hb2 := hide hb2)
    | fail)
  go_ret2
  exact ⟨A2, c2, rfl, unhide o2, unhide hb2⟩
theorem run_store_func (P : Program) (w : World) (a : Addr) (m : Mode) (f : Fn) (x y : Array Value) : (store a (.func f x y) m).run P w = stored P w a (.func f x y) m := run_store P w a _ m rfl
section
attribute [local go_sem] run_store_func
set_option maxHeartbeats 400000 in
theorem openers_any (s : St) (w : World) :
    Calls Tryd.prog 19 #[stV s] w fun e w' => e = .returned (.agg #[.func (.func 13) #[] #[], .func (.func 28) #[] #[.pointer (some ⟨w.heap.size, 0, none⟩)], .func (.func 31) #[] #[]]) ∧ Below w.heap.size w w' ∧ Blk w' w.heap.size 24 (stC s) := by
  go_enter Tryd.func19, Tryd.ntmps19
  go_wp2_with fail
  refine bodyPost_ret (v := .agg #[.func (.func 13) #[] #[], .func (.func 28) #[] #[.pointer (some ⟨w.heap.size, 0, none⟩)], .func (.func 31) #[] #[]]) ?_ rfl ⟨rfl, ?_, ?_⟩
  · simp [results, Tryd.results19, go_sem]
  · exact bl_alloc (bl_alloc (Below.refl _ _) _) _
  · exact Blk.alloc (Blk.new rfl) _
end
end Go.Proofs.YthkccpemgmpadaaDoor

namespace Go.Proofs.YthkccpemgmpadaaDoor
set_option maxRecDepth 100000
open Go.RowKit

theorem unp_err (t : List UInt8) (h : (unpU t).2 ≠ 0) : (unpU t).1 = [] := by
  revert h
  unfold unpU P.unpackR
  split
  · intro _; rfl
  · split
    · intro _; rfl
    · split
      · intro _; rfl
      · split
        · intro _; rfl
        · split
          · intro _; rfl
          · split
            · intro h; exact absurd rfl h
            · intro _; rfl
theorem fn_0 (g : Nat) (W : World) : (Instr.index 52 (.agg #[.func (.func 13) #[] #[], .func (.func 28) #[] #[.pointer (some ⟨g, 0, none⟩)], .func (.func 31) #[] #[]]) (.int .i64 0)).run Tryd.prog W = .ok (.func (.func 13) #[] #[]) W := by kernel_rfl
theorem fn_1 (g : Nat) (W : World) : (Instr.index 52 (.agg #[.func (.func 13) #[] #[], .func (.func 28) #[] #[.pointer (some ⟨g, 0, none⟩)], .func (.func 31) #[] #[]]) (.int .i64 1)).run Tryd.prog W = .ok (.func (.func 28) #[] #[.pointer (some ⟨g, 0, none⟩)]) W := by kernel_rfl
theorem fn_2 (g : Nat) (W : World) : (Instr.index 52 (.agg #[.func (.func 13) #[] #[], .func (.func 28) #[] #[.pointer (some ⟨g, 0, none⟩)], .func (.func 31) #[] #[]]) (.int .i64 2)).run Tryd.prog W = .ok (.func (.func 31) #[] #[]) W := by kernel_rfl
set_option maxHeartbeats 2000000 in
theorem Open_1 (s : St) (v : Value) (b : List UInt8) (w : World) (ht : Tab w) (h : Bs 0 w.heap.size w v b) (hl : b.length ≤ 60000) (h1 : (sumS b).2 ≠ 0) :
    Calls Tryd.prog 9 #[stV s, v] w (Ans (openS s b) w) := by
  have hA := fun W (hb : Below w.heap.size w W) => crcOpen_u 0 v b W (h.to hb) (by omega)
  have hl1 : (sumS b).1.length ≤ b.length := by
    unfold sumS
    split
    · simp
    · split
      · simp only [List.length_take]; omega
      · simp
  have hB := fun g v1 W (hb : Below w.heap.size w W) (hg : Blk W g 24 (stC s)) (h2 : Bs 0 W.heap.size W v1 (sumS b).1) => opener1_any s g v1 (sumS b).1 W (ht.below hb (Nat.le_refl _)) hg h2 (by omega)
  have hl2 : (innerS s (sumS b).1).1.length ≤ 65536 := by
    unfold innerS
    split
    · simp
    · split
      · simp
      · split
        · simp only [hid_len]; show ((sumS b).1.drop 24).length ≤ _; rw [List.length_drop]; omega
        · simp
  have hC := fun v1 W (h2 : Bs 0 W.heap.size W v1 (innerS s (sumS b).1).1) => opener2_any 0 v1 (innerS s (sumS b).1).1 W h2 (by omega)
  have hR : openS s b = ([], (sumS b).2) := by unfold openS; rw [if_neg (by omega), if_pos h1]
  rw [hR]
  have hk : ¬ (131072 : Int) < (b.length : Int) := by omega
  obtain ⟨A, c, rfl⟩ := h.form
  unfold Ans at hA hB hC
  generalize unpU (innerS s (sumS b).1).1 = R3 at *
  generalize innerS s (sumS b).1 = R2 at *
  generalize sumS b = R1 at *
  obtain ⟨T1, e1⟩ := R1; obtain ⟨T2, e2⟩ := R2; obtain ⟨T3, e3⟩ := R3
  simp only [] at hA hB hC h1 hl1 hl2
  have k1 : (e1 == 0) = false := by simpa using h1
  generalize b.length = m at *
  generalize T1.length = m1 at *
  generalize T2.length = m2 at *
  generalize T3.length = m3 at *
  replace hA := hide hA; replace hB := hide hB; replace hC := hide hC
  clear hR h hl hl1 hl2 ht h1
  have X0 : Fx w (w.alloc (.cells (stC s) 24)) [(w.heap.size, 24, stC s)] [] [] := (Fx.nil w).newB w.heap.size rfl (stC s) 24
  replace X0 := hide X0
  go_enter Tryd.func9, Tryd.ntmps9
  go_upto_region 1 with (fail)
  generalize hW : World.alloc w _ = W at *
  clear hW
  have c00 : W.cell? ⟨w.heap.size, 0, none⟩ = some (u32v s.a) := ((unhide X0).get 0 rfl).cell 0
  have c01 : W.cell? ⟨w.heap.size, 1, none⟩ = some (u32v s.b) := ((unhide X0).get 0 rfl).cell 1
  have c02 : W.cell? ⟨w.heap.size, 2, none⟩ = some (u32v s.c) := ((unhide X0).get 0 rfl).cell 2
  have c03 : W.cell? ⟨w.heap.size, 3, none⟩ = some (u32v s.d) := ((unhide X0).get 0 rfl).cell 3
  go_wp2_with (first
    | (go_at_call 19; refine (openers_any s _).mono ?_; rintro e w2 ⟨rfl, hb2, k2'⟩
       have X2 : Fx w w2 [(w.heap.size, 24, stC s), (W.heap.size, 24, stC s)] [] [] := ((unhide X0).call hb2).addB k2'
       generalize hg : W.heap.size = g at *
       clear hg hb2 k2'
       replace X2 := hide X2)
    | fail)
  have x0 := fn_0 g
  have x1 := fn_1 g
  have x2 := fn_2 g
  refine wp_loop_rounds 4 ?_
  rw [rounds_succ]
  go_wp2_with (first
    | (go_at_call 13; refine (unhide hA _ (unhide X2).bl).mono ?_; rintro e w3 ⟨A3, c3, rfl, o3, hb3⟩
       have X3 : Fx w w3 [(w.heap.size, 24, stC s), (g, 24, stC s)] [] [(.slice A3 m1 c3, T1)] := ((unhide X2).call hb3).addZ (Bs.of_own0 o3)
       have b3 := hide X3.bl
       replace X3 := hide X3
       clear o3 hb3)
    | fail)
  go_ret2
  exact Ans.none rfl rfl (unhide b3)
set_option maxHeartbeats 2000000 in
theorem Open_2 (s : St) (v : Value) (b : List UInt8) (w : World) (ht : Tab w) (h : Bs 0 w.heap.size w v b) (hl : b.length ≤ 60000) (h1 : (sumS b).2 = 0) (h2 : (innerS s (sumS b).1).2 ≠ 0) :
    Calls Tryd.prog 9 #[stV s, v] w (Ans (openS s b) w) := by
  have hA := fun W (hb : Below w.heap.size w W) => crcOpen_u 0 v b W (h.to hb) (by omega)
  have hl1 : (sumS b).1.length ≤ b.length := by
    unfold sumS
    split
    · simp
    · split
      · simp only [List.length_take]; omega
      · simp
  have hB := fun g v1 W (hb : Below w.heap.size w W) (hg : Blk W g 24 (stC s)) (h2 : Bs 0 W.heap.size W v1 (sumS b).1) => opener1_any s g v1 (sumS b).1 W (ht.below hb (Nat.le_refl _)) hg h2 (by omega)
  have hl2 : (innerS s (sumS b).1).1.length ≤ 65536 := by
    unfold innerS
    split
    · simp
    · split
      · simp
      · split
        · simp only [hid_len]; show ((sumS b).1.drop 24).length ≤ _; rw [List.length_drop]; omega
        · simp
  have hC := fun v1 W (h2 : Bs 0 W.heap.size W v1 (innerS s (sumS b).1).1) => opener2_any 0 v1 (innerS s (sumS b).1).1 W h2 (by omega)
  have hR : openS s b = ([], (innerS s (sumS b).1).2) := by unfold openS; rw [if_neg (by omega), if_neg (by rw [h1]; simp), if_pos h2]
  rw [hR]
  have hk : ¬ (131072 : Int) < (b.length : Int) := by omega
  obtain ⟨A, c, rfl⟩ := h.form
  unfold Ans at hA hB hC
  generalize unpU (innerS s (sumS b).1).1 = R3 at *
  generalize innerS s (sumS b).1 = R2 at *
  generalize sumS b = R1 at *
  obtain ⟨T1, e1⟩ := R1; obtain ⟨T2, e2⟩ := R2; obtain ⟨T3, e3⟩ := R3
  simp only [] at hA hB hC h1 h2 hl1 hl2
  subst h1
  have k2 : (e2 == 0) = false := by simpa using h2
  generalize b.length = m at *
  generalize T1.length = m1 at *
  generalize T2.length = m2 at *
  generalize T3.length = m3 at *
  replace hA := hide hA; replace hB := hide hB; replace hC := hide hC
  clear hR h hl hl1 hl2 ht h2
  have X0 : Fx w (w.alloc (.cells (stC s) 24)) [(w.heap.size, 24, stC s)] [] [] := (Fx.nil w).newB w.heap.size rfl (stC s) 24
  replace X0 := hide X0
  go_enter Tryd.func9, Tryd.ntmps9
  go_upto_region 1 with (fail)
  generalize hW : World.alloc w _ = W at *
  clear hW
  have c00 : W.cell? ⟨w.heap.size, 0, none⟩ = some (u32v s.a) := ((unhide X0).get 0 rfl).cell 0
  have c01 : W.cell? ⟨w.heap.size, 1, none⟩ = some (u32v s.b) := ((unhide X0).get 0 rfl).cell 1
  have c02 : W.cell? ⟨w.heap.size, 2, none⟩ = some (u32v s.c) := ((unhide X0).get 0 rfl).cell 2
  have c03 : W.cell? ⟨w.heap.size, 3, none⟩ = some (u32v s.d) := ((unhide X0).get 0 rfl).cell 3
  go_wp2_with (first
    | (go_at_call 19; refine (openers_any s _).mono ?_; rintro e w2 ⟨rfl, hb2, k2'⟩
       have X2 : Fx w w2 [(w.heap.size, 24, stC s), (W.heap.size, 24, stC s)] [] [] := ((unhide X0).call hb2).addB k2'
       generalize hg : W.heap.size = g at *
       clear hg hb2 k2'
       replace X2 := hide X2)
    | fail)
  have x0 := fn_0 g
  have x1 := fn_1 g
  have x2 := fn_2 g
  refine wp_loop_rounds 4 ?_
  rw [rounds_succ]
  go_wp2_with (first
    | (go_at_call 13; refine (unhide hA _ (unhide X2).bl).mono ?_; rintro e w3 ⟨A3, c3, rfl, o3, hb3⟩
       have X3 : Fx w w3 [(w.heap.size, 24, stC s), (g, 24, stC s)] [] [(.slice A3 m1 c3, T1)] := ((unhide X2).call hb3).addZ (Bs.of_own0 o3)
       have b3 := hide X3.bl
       replace X3 := hide X3
       clear o3 hb3)
    | fail)
  rw [rounds_succ]
  go_wp2_with (first
    | (go_at_call 28; refine (unhide hB _ _ _ (unhide X3).bl ((unhide X3).get 1 rfl) ((unhide X3).rd 0 rfl)).mono ?_; rintro e w4 ⟨A4, c4, rfl, o4, hb4⟩
       have X4 : Fx w w4 [(w.heap.size, 24, stC s), (g, 24, stC s)] [] [(.slice A4 m2 c4, T2)] := ((unhide X3).sub (Z' := []) (fun _ h => h) (fun _ h => h) (fun _ h => (nomatch h)) |>.call hb4).addZ (Bs.of_own0 o4)
       have b4 := hide X4.bl
       replace X4 := hide X4
       clear o4 hb4)
    | fail)
  go_ret2
  exact Ans.none rfl rfl (unhide b4)
set_option maxHeartbeats 2000000 in
theorem Open_3 (s : St) (v : Value) (b : List UInt8) (w : World) (ht : Tab w) (h : Bs 0 w.heap.size w v b) (hl : b.length ≤ 60000) (h1 : (sumS b).2 = 0) (h2 : (innerS s (sumS b).1).2 = 0) :
    Calls Tryd.prog 9 #[stV s, v] w (Ans (openS s b) w) := by
  have hA := fun W (hb : Below w.heap.size w W) => crcOpen_u 0 v b W (h.to hb) (by omega)
  have hl1 : (sumS b).1.length ≤ b.length := by
    unfold sumS
    split
    · simp
    · split
      · simp only [List.length_take]; omega
      · simp
  have hB := fun g v1 W (hb : Below w.heap.size w W) (hg : Blk W g 24 (stC s)) (h2 : Bs 0 W.heap.size W v1 (sumS b).1) => opener1_any s g v1 (sumS b).1 W (ht.below hb (Nat.le_refl _)) hg h2 (by omega)
  have hl2 : (innerS s (sumS b).1).1.length ≤ 65536 := by
    unfold innerS
    split
    · simp
    · split
      · simp
      · split
        · simp only [hid_len]; show ((sumS b).1.drop 24).length ≤ _; rw [List.length_drop]; omega
        · simp
  have hC := fun v1 W (h2 : Bs 0 W.heap.size W v1 (innerS s (sumS b).1).1) => opener2_any 0 v1 (innerS s (sumS b).1).1 W h2 (by omega)
  have hR : openS s b = unpU (innerS s (sumS b).1).1 := by unfold openS; rw [if_neg (by omega), if_neg (by rw [h1]; simp), if_neg (by rw [h2]; simp)]
  have hE := unp_err (innerS s (sumS b).1).1
  rw [hR]
  have hk : ¬ (131072 : Int) < (b.length : Int) := by omega
  obtain ⟨A, c, rfl⟩ := h.form
  unfold Ans at hA hB hC
  generalize unpU (innerS s (sumS b).1).1 = R3 at *
  generalize innerS s (sumS b).1 = R2 at *
  generalize sumS b = R1 at *
  obtain ⟨T1, e1⟩ := R1; obtain ⟨T2, e2⟩ := R2; obtain ⟨T3, e3⟩ := R3
  simp only [] at hE hA hB hC h1 h2 hl1 hl2
  subst h1 h2
  generalize b.length = m at *
  generalize T1.length = m1 at *
  generalize T2.length = m2 at *
  obtain ⟨m3, hm3⟩ : ∃ m3, T3.length = m3 := ⟨_, rfl⟩
  rw [hm3] at hC
  replace hE := hide hE; replace hm3 := hide hm3
  replace hA := hide hA; replace hB := hide hB; replace hC := hide hC
  clear hR h hl hl1 hl2 ht 
  have X0 : Fx w (w.alloc (.cells (stC s) 24)) [(w.heap.size, 24, stC s)] [] [] := (Fx.nil w).newB w.heap.size rfl (stC s) 24
  replace X0 := hide X0
  go_enter Tryd.func9, Tryd.ntmps9
  go_upto_region 1 with (fail)
  generalize hW : World.alloc w _ = W at *
  clear hW
  have c00 : W.cell? ⟨w.heap.size, 0, none⟩ = some (u32v s.a) := ((unhide X0).get 0 rfl).cell 0
  have c01 : W.cell? ⟨w.heap.size, 1, none⟩ = some (u32v s.b) := ((unhide X0).get 0 rfl).cell 1
  have c02 : W.cell? ⟨w.heap.size, 2, none⟩ = some (u32v s.c) := ((unhide X0).get 0 rfl).cell 2
  have c03 : W.cell? ⟨w.heap.size, 3, none⟩ = some (u32v s.d) := ((unhide X0).get 0 rfl).cell 3
  go_wp2_with (first
    | (go_at_call 19; refine (openers_any s _).mono ?_; rintro e w2 ⟨rfl, hb2, k2'⟩
       have X2 : Fx w w2 [(w.heap.size, 24, stC s), (W.heap.size, 24, stC s)] [] [] := ((unhide X0).call hb2).addB k2'
       generalize hg : W.heap.size = g at *
       clear hg hb2 k2'
       replace X2 := hide X2)
    | fail)
  have x0 := fn_0 g
  have x1 := fn_1 g
  have x2 := fn_2 g
  refine wp_loop_rounds 4 ?_
  rw [rounds_succ]
  go_wp2_with (first
    | (go_at_call 13; refine (unhide hA _ (unhide X2).bl).mono ?_; rintro e w3 ⟨A3, c3, rfl, o3, hb3⟩
       have X3 : Fx w w3 [(w.heap.size, 24, stC s), (g, 24, stC s)] [] [(.slice A3 m1 c3, T1)] := ((unhide X2).call hb3).addZ (Bs.of_own0 o3)
       have b3 := hide X3.bl
       replace X3 := hide X3
       clear o3 hb3)
    | fail)
  rw [rounds_succ]
  go_wp2_with (first
    | (go_at_call 28; refine (unhide hB _ _ _ (unhide X3).bl ((unhide X3).get 1 rfl) ((unhide X3).rd 0 rfl)).mono ?_; rintro e w4 ⟨A4, c4, rfl, o4, hb4⟩
       have X4 : Fx w w4 [(w.heap.size, 24, stC s), (g, 24, stC s)] [] [(.slice A4 m2 c4, T2)] := ((unhide X3).sub (Z' := []) (fun _ h => h) (fun _ h => h) (fun _ h => (nomatch h)) |>.call hb4).addZ (Bs.of_own0 o4)
       have b4 := hide X4.bl
       replace X4 := hide X4
       clear o4 hb4)
    | fail)
  rw [rounds_succ]
  go_wp2_with (first
    | (go_at_call 31; refine (unhide hC _ _ ((unhide X4).rd 0 rfl)).mono ?_; rintro e w5 ⟨A5, c5, rfl, o5, hb5⟩
       have o5' := hide (ownsRow_mono (base' := w.heap.size) o5 (unhide X4).bl.size)
       have b5 := hide (bl_call (unhide X4).bl hb5)
       clear o5 hb5)
    | fail)
  · rename_i hne
    go_ret2
    exact Ans.none (er := e3) (by rw [unhide hE (by simpa using hne)]) rfl (unhide b5)
  · rename_i hne
    have hz : e3 = 0 := by simpa using hne
    replace hz := hide hz
    clear hne
    rw [rounds_succ]
    go_wp2_with fail
    go_ret2
    unfold Ans
    exact ⟨A5, c5, by simp only [unhide hm3, unhide hz]; rfl, by have := unhide o5'; rw [← unhide hm3] at this; exact this, unhide b5⟩
/-- What was sealed is opened: Open's answer, whatever the octets are. -/
theorem Open_any' (s : St) (v : Value) (b : List UInt8) (w : World) (ht : Tab w) (h : Bs 0 w.heap.size w v b) (hl : b.length ≤ 60000) :
    Calls Tryd.prog 9 #[stV s, v] w (Ans (openS s b) w) := by
  by_cases h1 : (sumS b).2 = 0
  · by_cases h2 : (innerS s (sumS b).1).2 = 0
    · exact Open_3 s v b w ht h hl h1 h2
    · exact Open_2 s v b w ht h hl h1 h2
  · exact Open_1 s v b w ht h hl h1
end Go.Proofs.YthkccpemgmpadaaDoor

namespace Go.Proofs.YthkccpemgmpadaaDoor
set_option maxRecDepth 100000
open Go.RowKit

/-! ### lists of texts -/
theorem Bss.grow {w w' : World} {v : Value} {l : List (List UInt8)} (h : Bss w.heap.size w v l) (hb : Below w.heap.size w w') : Bss w'.heap.size w' v l := by
  obtain ⟨A, c, e, h⟩ := h
  refine ⟨A, c, e, fun i x hx => ?_⟩
  obtain ⟨b, off, Ai, ci, e, h1, h2, h3⟩ := h i x hx
  exact ⟨b, off, Ai, ci, e, Nat.lt_of_lt_of_le h1 hb.size, (hb.cell (p := ⟨b, off + i, none⟩) h1).trans h2, h3.to hb⟩
/-- A list of texts at a place. -/
structure Tx (b off : Nat) (w : World) (l : List (List UInt8)) : Prop where
  lt : b < w.heap.size
  at_ : ∀ k (hk : k < l.length), ∃ A c, w.cell? ⟨b, off + k, none⟩ = some (.slice A l[k].length c) ∧ Bs 0 w.heap.size w (.slice A l[k].length c) l[k]
theorem Tx.grow {b off : Nat} {w w' : World} {l : List (List UInt8)} (h : Tx b off w l) (hb : Below w.heap.size w w') : Tx b off w' l :=
  ⟨Nat.lt_of_lt_of_le h.lt hb.size, fun k hk => by
    obtain ⟨A, c, h1, h2⟩ := h.at_ k hk
    exact ⟨A, c, (hb.cell (p := ⟨b, off + k, none⟩) h.lt).trans h1, h2.to hb⟩⟩
theorem Bss.parts {w : World} {v : Value} {l : List (List UInt8)} (h : Bss w.heap.size w v l) : (l = [] ∧ ∃ A c, v = .slice A 0 c) ∨ ∃ b off c, v = .slice (some ⟨b, off, none⟩) l.length c ∧ Tx b off w l := by
  obtain ⟨A, c, rfl, h⟩ := h
  cases l with
  | nil => exact .inl ⟨rfl, A, c, rfl⟩
  | cons x r =>
    obtain ⟨b, off, A0, c0, rfl, h1, h2, h3⟩ := h 0 x rfl
    refine .inr ⟨b, off, c, rfl, h1, fun k hk => ?_⟩
    obtain ⟨b', off', Ai, ci, e, _, g2, g3⟩ := h k _ (List.getElem?_eq_getElem hk)
    injection e with e
    injection e with e1 e2
    subst e1 e2
    exact ⟨Ai, ci, g2, g3⟩
theorem upto_eq (l : List (List UInt8)) : C.upto l l.length = l.flatten.length := by unfold C.upto; rw [List.take_length]
theorem cat_eq (l : List (List UInt8)) : C.cat l l.length = l.flatten := by unfold C.cat; rw [List.take_length]

/-! ### all texts, one behind the other -/
set_option maxHeartbeats 400000 in
theorem grow_zero (w : World) : Calls Tryd.prog 27 #[.slice none 0 0, .int .i64 0] w fun e w' => e = .returned (.slice none 0 0) ∧ w = w' := by
  go_enter Tryd.func27, Tryd.ntmps27
  go_wp2_with fail
  go_ret
  exact ⟨rfl, rfl⟩
theorem grow_u (n : Nat) (w : World) (hn : n ≤ 1000000) :
    Calls Tryd.prog 27 #[.slice none 0 0, .int .i64 n] w fun e w' => ∃ A c, e = .returned (.slice A 0 c) ∧ w'.ownsRow w.heap.size 5 1 (.slice A 0 c) 0 [] ∧ Below w.heap.size w w' := by
  rcases Nat.eq_zero_or_pos n with rfl | h0
  · refine (grow_zero w).mono ?_
    rintro e w' ⟨rfl, rfl⟩
    exact ⟨none, 0, rfl, World.ownsRow_nil _ _ _ _, Below.refl _ _⟩
  · exact C.grow_any n w h0 hn
set_option maxHeartbeats 400000 in
theorem concat_nil (A : Option Addr) (c : Nat) (w : World) : Calls Tryd.prog 17 #[.slice A 0 c] w fun e w' => e = .returned (.slice none 0 0) ∧ w = w' := by
  have hG := fun W => grow_zero W
  replace hG := hide hG
  go_enter Tryd.func17, Tryd.ntmps17
  go_wp2_with fail
  refine wp_loop_rounds 1 ?_
  rw [rounds_succ]
  go_wp2_with (first
    | (go_at_call 27; refine (unhide hG _).mono ?_; rintro e w1 ⟨rfl, rfl⟩)
    | fail)
  refine wp_loop_rounds 1 ?_
  rw [rounds_succ]
  go_wp2_with fail
  go_ret
  exact ⟨rfl, rfl⟩
set_option maxHeartbeats 2000000 in
theorem concat_at (b off c : Nat) (Ls : List (List UInt8)) (w : World) (h : Tx b off w Ls) (hn : Ls.length ≤ 1000) (hL : C.upto Ls Ls.length ≤ 1000000) :
    Calls Tryd.prog 17 #[.slice (some ⟨b, off, none⟩) Ls.length c] w fun e w' => ∃ A c, e = .returned (.slice A (C.upto Ls Ls.length) c) ∧ w'.ownsRow w.heap.size 5 1 (.slice A (C.upto Ls Ls.length) c) (C.upto Ls Ls.length) ((C.cat Ls Ls.length).map u8v) ∧ Below w.heap.size w w' := by
  obtain ⟨i0, hi0, hz0, hz1, hz2⟩ := info_parts info5
  obtain ⟨n, hn'⟩ : ∃ n, n = Ls.length := ⟨_, rfl⟩
  have hfl := C.flat_le Ls
  have hgrow := fun W => grow_u (C.upto Ls Ls.length) W hL
  rw [← hn'] at hfl hgrow hL ⊢
  have hg := h.lt
  replace h := hide h; replace hn' := hide hn'; replace hfl := hide hfl; replace hgrow := hide hgrow
  have hn2 : n ≤ 1000 := by rw [unhide hn']; exact hn
  clear hn
  go_enter Tryd.func17, Tryd.ntmps17
  go_wp2_with fail
  go_loopw [3, 11] (fun s3 s11 wr => ∃ k : Nat, k ≤ n ∧ s11 = .int .i64 k ∧ s3 = .int .i64 (C.upto Ls k : Nat) ∧ w = wr) (fun _ i _ => n - (intOf i).toNat)
  case atStart => exact ⟨0, by omega, rfl, rfl, rfl⟩
  case round =>
    obtain ⟨k, hk, rfl, rfl, rfl⟩ := hrel
    by_cases hlt : k < n
    · have hlt' : k < Ls.length := by rw [← unhide hn']; exact hlt
      obtain ⟨A, c, hc, _⟩ := (unhide h).at_ k hlt'
      have ha : C.upto Ls (k + 1) = C.upto Ls k + Ls[k].length := C.upto_succ hlt'
      have hb := unhide hfl (k + 1)
      rw [ha] at hb
      generalize ha1 : C.upto Ls k = a at *
      generalize Ls[k].length = b at *
      replace ha := hide ha
      have w1 : (0 : Int) ≤ (a : Int) + (b : Int) := by omega
      have w2 : (a : Int) + (b : Int) ≤ 1000000 := by omega
      go_wp2_with fail
      go_roundw
      case rel => exact ⟨k + 1, by omega, by go_num, by rw [unhide ha]; go_num, by simp⟩
      case measure => simp [intOf]; omega
    · obtain rfl : k = n := by omega
      have hgz : Hid (b < w.heap.size) := hg
      go_wp2_with (go_at_call 27; refine (unhide hgrow _).mono ?_; rintro e w1 ⟨A1, c1, rfl, hown, hb1⟩)
      replace hown := hide hown; replace hb1 := hide hb1
      go_loopw [6, 27] (fun s6 s27 wx => ∃ (j : Nat) (A2 : Option Addr) (c2 : Nat), j ≤ k ∧ s27 = .int .i64 j ∧ s6 = .slice A2 (C.upto Ls j) c2 ∧ Hid (wx.ownsRow w.heap.size 5 1 (.slice A2 (C.upto Ls j) c2) (C.upto Ls j) ((C.cat Ls j).map u8v)) ∧ Hid (Below w.heap.size w wx)) (fun _ i _ => k - (intOf i).toNat)
      case atStart => exact ⟨0, A1, c1, by omega, rfl, rfl, hide (unhide hown), hb1⟩
      case round =>
        obtain ⟨j, A2, c2, hj, rfl, rfl, o2, b2⟩ := hrel
        by_cases hlt2 : j < k
        · have hlt' : j < Ls.length := by rw [← unhide hn']; exact hlt2
          obtain ⟨A, c, hc, hx⟩ := (unhide h).at_ j hlt'
          have ha : C.cat Ls (j + 1) = C.cat Ls j ++ Ls[j] := C.cat_succ hlt'
          have ha' : C.upto Ls (j + 1) = C.upto Ls j + Ls[j].length := C.upto_succ hlt'
          have hb := unhide hfl (j + 1)
          rw [ha'] at hb
          have hsrc := SrcOk.below hx.src.2 (unhide b2)
          have hc' := ((unhide b2).cell (p := ⟨b, off + j, none⟩) hg).trans hc
          have hgx : b < wr.heap.size := Nat.lt_of_lt_of_le hg (unhide b2).size
          have hnl : (Ls[j].map u8v).length = Ls[j].length * 1 := by simp
          have hno := u8s_one Ls[j]
          have hsz := (unhide b2).size
          generalize Ls[j] = N at *
          generalize C.upto Ls j = m at *
          have u1 : m + N.length ≤ maxLen := by simp only [maxLen]; omega
          have u2 : (m + N.length) * 1 ≤ 140737488355328 := by omega
          replace ha := hide ha; replace hsrc := hide hsrc; replace hnl := hide hnl; replace hno := hide hno; replace u1 := hide u1; replace u2 := hide u2; replace hb := hide hb
          replace ha' := hide ha'
          clear hc hx
          go_wp2_with (first
            | (at_builtin
               refine wpList_app _ rfl (.tmp 31) (.tmp 32) 31 rfl w.heap.size 5 i0 _ 1 1 Tryd.underlying31 hi0 hz0 hz1 hz2 rfl (Nat.succ_pos _) _ m ((C.cat Ls j).map u8v) rfl (unhide o2) A N.length c (N.map u8v) rfl (unhide hnl) (unhide hsrc) (unhide hno) (unhide u1) (unhide u2) hsz ?_
               intro v' w2 hown2 hg2
               obtain ⟨A3, c3, rfl⟩ := ownsRow_form hown2))
          have hal : (C.cat Ls j).map u8v ++ N.map u8v = (C.cat Ls (j + 1)).map u8v := by rw [unhide ha, List.map_append]
          rw [hal, ← unhide ha'] at hown2
          go_roundw
          case rel => exact ⟨j + 1, A3, c3, by omega, by go_num, by rw [unhide ha'], hide hown2, hide (bl_grown (unhide b2) hg2 (C.own_base (unhide o2)))⟩
          case measure => simp [intOf]; omega
        · obtain rfl : j = k := by omega
          go_wp2_with fail
          go_ret
          exact ⟨A2, c2, rfl, unhide o2, unhide b2⟩
theorem concat_bss (v : Value) (l : List (List UInt8)) (w : World) (h : Bss w.heap.size w v l) (hn : l.length ≤ 1000) (hL : l.flatten.length ≤ 1000000) :
    Calls Tryd.prog 17 #[v] w fun e w' => ∃ A c, e = .returned (.slice A l.flatten.length c) ∧ OwnB w' w.heap.size (.slice A l.flatten.length c) l.flatten ∧ Below w.heap.size w w' := by
  rcases h.parts with ⟨rfl, A, c, rfl⟩ | ⟨b, off, c, rfl, ht⟩
  · refine (concat_nil A c w).mono ?_
    rintro e w' ⟨rfl, rfl⟩
    exact ⟨none, 0, rfl, World.ownsRow_nil _ _ _ _, Below.refl _ _⟩
  · have := concat_at b off c l w ht hn (by rw [upto_eq]; exact hL)
    rw [upto_eq, cat_eq] at this
    exact this

/-! ### whether they fit -/
set_option maxHeartbeats 1000000 in
theorem fit_any (v : Value) (l : List (List UInt8)) (w : World) (h : Bss w.heap.size w v l) (hn : l.length ≤ 1000) (hL : l.flatten.length ≤ 65536) :
    Calls Tryd.prog 16 #[v] w fun e w' => e = .returned (.bool true) ∧ w = w' := by
  rcases h.parts with ⟨rfl, A, c, rfl⟩ | ⟨b, off, c, rfl, ht⟩
  · clear h hn hL
    go_enter Tryd.func16, Tryd.ntmps16
    go_wp2_with fail
    refine wp_loop_rounds 1 ?_
    rw [rounds_succ]
    go_wp2_with fail
    go_ret
    exact ⟨rfl, rfl⟩
  · have hfl := C.flat_le l
    rw [upto_eq] at hfl
    obtain ⟨n, hn'⟩ : ∃ n, n = l.length := ⟨_, rfl⟩
    rw [← hn']
    have hn2 : n ≤ 1000 := by rw [hn']; exact hn
    replace ht := hide ht; replace hn' := hide hn'; replace hfl := hide hfl
    clear h hn
    go_enter Tryd.func16, Tryd.ntmps16
    go_wp2_with fail
    go_loopw [3, 8] (fun s3 s8 wr => ∃ (k : Nat) (R : Int), k ≤ n ∧ s8 = .int .i64 k ∧ s3 = .int .i64 R ∧ Hid (R = 65536 - (C.upto l k : Nat)) ∧ w = wr) (fun _ i _ => n - (intOf i).toNat)
    case atStart => exact ⟨0, 65536, by omega, rfl, rfl, hide (by simp [C.upto]), rfl⟩
    case round =>
      obtain ⟨k, R, hk, rfl, rfl, hR, rfl⟩ := hrel
      by_cases hlt : k < n
      · have hlt' : k < l.length := by rw [← unhide hn']; exact hlt
        obtain ⟨A, c, hc, _⟩ := (unhide ht).at_ k hlt'
        have hbl := (unhide ht).lt
        have ha : C.upto l (k + 1) = C.upto l k + l[k].length := C.upto_succ hlt'
        have hb := unhide hfl (k + 1)
        rw [ha] at hb
        have k1 : ¬ R < (l[k].length : Int) := by rw [unhide hR]; omega
        have k2 : R - (l[k].length : Int) = 65536 - (C.upto l (k + 1) : Nat) := by rw [unhide hR, ha]; omega
        have k3 : (0 : Int) ≤ R - (l[k].length : Int) := by omega
        have k4 : R - (l[k].length : Int) ≤ 65536 := by rw [unhide hR]; omega
        generalize l[k].length = m at *
        replace k2 := hide k2
        clear ha hb
        go_wp2_with fail
        go_roundw
        case rel => exact ⟨k + 1, R - m, by omega, by go_num, by go_num, k2, by simp⟩
        case measure => simp [intOf]; omega
      · obtain rfl : k = n := by omega
        go_wp2_with fail
        go_ret
        exact ⟨rfl, rfl⟩
end Go.Proofs.YthkccpemgmpadaaDoor

namespace Go.Proofs.YthkccpemgmpadaaDoor
set_option maxRecDepth 100000
open Go.RowKit

/-! ### pieces -/
theorem infoP : (Tryd.prog.info? 41).map (fun i => (i.zero, i.size, i.bytes)) = some (some (.agg #[.int .i64 0, .int .i64 0, .int .u32 0]), 3, 24) := by kernel_rfl
/-- The slice value reads as pieces. -/
def Pcs (lo hi : Nat) (w : World) (v : Value) (l : List Pc) : Prop :=
  ∃ A c, v = .slice A l.length c ∧ (0 < l.length → ∃ b off, A = some ⟨b, off, none⟩ ∧ lo ≤ b ∧ b < hi) ∧
    ∀ b off, A = some ⟨b, off, none⟩ → ∀ k (hk : k < l.length), w.cell? ⟨b, off + k * 3, none⟩ = some (.int .i64 l[k].at_) ∧ w.cell? ⟨b, off + k * 3 + 1, none⟩ = some (.int .i64 l[k].len) ∧ w.cell? ⟨b, off + k * 3 + 2, none⟩ = some (u32v l[k].sum)
theorem Pcs.grow {lo : Nat} {w w' : World} {v : Value} {l : List Pc} (h : Pcs lo w.heap.size w v l) (hb : Below w.heap.size w w') : Pcs lo w'.heap.size w' v l := by
  obtain ⟨A, c, e, h1, h2⟩ := h
  refine ⟨A, c, e, fun h0 => ?_, fun b off e k hk => ?_⟩
  · obtain ⟨b, off, e, g1, g2⟩ := h1 h0
    exact ⟨b, off, e, g1, Nat.lt_of_lt_of_le g2 hb.size⟩
  · obtain ⟨b', off', e', _, g2⟩ := h1 (by omega)
    rw [e] at e'; injection e' with e'; injection e' with e1 e2; subst e1 e2
    obtain ⟨c0, c1, c2⟩ := h2 b off e k hk
    exact ⟨(hb.cell (p := ⟨b, off + k * 3, none⟩) g2).trans c0, (hb.cell (p := ⟨b, off + k * 3 + 1, none⟩) g2).trans c1, (hb.cell (p := ⟨b, off + k * 3 + 2, none⟩) g2).trans c2⟩
theorem pcs_flat_len (l : List Pc) : (l.flatMap pcL).length = l.length * 3 := by
  induction l with
  | nil => rfl
  | cons f r ih => simp [pcL] at ih ⊢; omega
theorem pcs_flat_get (l : List Pc) (k : Nat) (hk : k < l.length) : (l.flatMap pcL)[k * 3]? = some (.int .i64 l[k].at_) ∧ (l.flatMap pcL)[k * 3 + 1]? = some (.int .i64 l[k].len) ∧ (l.flatMap pcL)[k * 3 + 2]? = some (u32v l[k].sum) := by
  induction l generalizing k with
  | nil => simp at hk
  | cons f r ih =>
    cases k with
    | zero => simp [pcL]
    | succ k =>
      have := ih k (by simpa using hk)
      rw [List.flatMap_cons, show pcL f = [.int .i64 f.at_, .int .i64 f.len, u32v f.sum] from rfl, show (k + 1) * 3 = k * 3 + 3 by omega]
      simpa using this
theorem pcL_one (p : Pc) : ∀ u ∈ pcL p, u.oneCell' = true := by
  intro u hu
  simp [pcL] at hu
  rcases hu with rfl | rfl | rfl <;> rfl
theorem pc_src {w : World} {g : Nat} {p : Pc} (h : Blk w g 41 (pcC p)) : SrcOk w (some ⟨g, 0, none⟩) 1 (pcL p) := fun _ => by
  refine ⟨_, rfl, fun j u hu => ?_⟩
  rw [add_none, h.cell, Nat.zero_add]
  simpa [pcC, pcL] using hu
theorem Pcs.of_own {w : World} {base n : Nat} {v : Value} {l : List Pc} (h : w.ownsRow base 41 3 v n (l.flatMap pcL)) : Pcs base w.heap.size w v l := by
  have hn : n = l.length := by have := ownsRow_len h; rw [pcs_flat_len] at this; omega
  subst hn
  rcases h.2 with ⟨rfl, h0⟩ | ⟨g, cap, cur, rfl, hb, hg, hnc, hcm, hcs, htake⟩
  · refine ⟨none, 0, by rw [h0], fun hp => by omega, fun _ _ e => by cases e⟩
  · refine ⟨some ⟨g, 0, none⟩, cap, rfl, fun _ => ⟨g, 0, rfl, hb, Blk.lt (t := 41) (cs := cur) hg⟩, fun b off e k hk => ?_⟩
    injection e with e; injection e with e1 e2; subst e1 e2
    have hcell := fun j (hj : j < l.length * 3) => World.ownsRow.cellAt (w := w) (base := base) (e := 41) (size := 3) (g := g) (n := l.length) (cap := cap) (xs := l.flatMap pcL) h j hj
    obtain ⟨c0, c1, c2⟩ := pcs_flat_get l k hk
    exact ⟨by rw [Nat.zero_add, hcell _ (by omega)]; exact c0, by rw [Nat.zero_add, hcell _ (by omega)]; exact c1, by rw [Nat.zero_add, hcell _ (by omega)]; exact c2⟩
theorem mkP (c : Nat) (hc : c ≤ 1000) (W : World) : ∃ cs : Array Value, cs.size = c * 3 ∧ (Instr.makeSlice 32 (.int .i64 0) (.int .i64 (c : Int))).run Tryd.prog W = .ok (.slice (some ⟨W.heap.size, 0, none⟩) 0 c) (W.alloc (.cells cs 41)) := by
  obtain ⟨i0, hi0, hz0, hz1, hz2⟩ := info_parts infoP
  have h := run_mk0 (P := Tryd.prog) 32 41 i0 _ 3 Tryd.underlying32 hi0 hz0 hz1 c (by rw [hz2]; omega) (by omega) W
  exact ⟨_, by simp [madeCells, Value.cells], h⟩
theorem flat_pc (l : List Pc) (p : Pc) : l.flatMap pcL ++ pcL p = (l ++ [p]).flatMap pcL := by simp
theorem pcs_take (l : List (List UInt8)) (k : Nat) (hk : k < l.length) : pcsF 0 (l.take (k + 1)) = pcsF 0 (l.take k) ++ [⟨(C.upto l k : Nat), l[k].length, C.sumR l[k]⟩] := by
  have h : l.take (k + 1) = l.take k ++ [l[k]] := by rw [List.take_add_one, List.getElem?_eq_getElem hk]; rfl
  rw [h, pcs_snoc, Nat.zero_add]
  rfl

set_option maxHeartbeats 2000000 in
theorem pieces_any (v : Value) (l : List (List UInt8)) (w : World) (h : Bss w.heap.size w v l) (hn : l.length ≤ 1000) (hL : l.flatten.length ≤ 65536) :
    Calls Tryd.prog 18 #[v] w fun e w' => ∃ A c, e = .returned (.slice A l.length c) ∧ w'.ownsRow w.heap.size 41 3 (.slice A l.length c) l.length ((pcsF 0 l).flatMap pcL) ∧ Below w.heap.size w w' := by
  obtain ⟨i0, hi0, hz0, hz1, hz2⟩ := info_parts infoP
  obtain ⟨cs, hcs, hmk⟩ := mkP l.length hn w
  have o0 := own_fresh w w.heap.size w.heap.size 41 3 l.length cs rfl (Nat.le_refl _) (by simp only [maxLen]; omega) hcs
  have b0 : Below w.heap.size w (w.alloc (.cells cs 41)) := bl_alloc (Below.refl _ _) _
  rcases h.parts with ⟨rfl, A, c, rfl⟩ | ⟨b, off, c, rfl, ht⟩
  · clear h hn hL
    replace o0 := hide o0; replace b0 := hide b0
    have hmk' : (Instr.makeSlice 32 (.int .i64 0) (.int .i64 0)).run Tryd.prog w = .ok (.slice (some ⟨w.heap.size, 0, none⟩) 0 0) (w.alloc (.cells cs 41)) := hmk
    clear hmk
    go_enter Tryd.func18, Tryd.ntmps18
    go_wp2_with fail
    refine wp_loop_rounds 1 ?_
    rw [rounds_succ]
    go_wp2_with fail
    go_ret
    exact ⟨_, _, rfl, unhide o0, unhide b0⟩
  · have hfl := C.flat_le l
    rw [upto_eq] at hfl
    have hS := fun k (hk : k < l.length) (A : Option Addr) (c : Nat) (W : World) (h : Bs 0 W.heap.size W (.slice A l[k].length c) l[k]) => sum_u 0 W.heap.size _ l[k] W h
    obtain ⟨n, hn'⟩ : ∃ n, n = l.length := ⟨_, rfl⟩
    have he : pcsF 0 l = pcsF 0 (l.take n) := by rw [hn', List.take_length]
    rw [he]
    have hS' : Hid _ := hide hS
    rw [← hn'] at hmk o0 ⊢
    have hn2 : n ≤ 1000 := by rw [hn']; exact hn
    replace ht := hide ht; replace hn' := hide hn'; replace hfl := hide hfl; replace o0 := hide o0; replace b0 := hide b0
    clear h hn hS he
    go_enter Tryd.func18, Tryd.ntmps18
    go_wp2_with fail
    go_loopw [3, 4, 6, 12] (fun s3 s4 s6 s12 wr => ∃ (k c' : Nat) (A' : Option Addr), k ≤ n ∧ s12 = .int .i64 k ∧ s4 = .int .i64 (C.upto l k : Nat) ∧ s3 = .slice A' k c' ∧ Hid (wr.ownsRow w.heap.size 41 3 (.slice A' k c') k ((pcsF 0 (l.take k)).flatMap pcL)) ∧ Hid (Below w.heap.size w wr)) (fun _ _ _ i _ => n - (intOf i).toNat)
    case atStart => exact ⟨0, _, _, by omega, rfl, rfl, rfl, o0, b0⟩
    case round =>
      obtain ⟨k, c', A', hk, rfl, rfl, rfl, o2, b2⟩ := hrel
      by_cases hlt : k < n
      · have hlt' : k < l.length := by rw [← unhide hn']; exact hlt
        have T2 := (unhide ht).grow (unhide b2)
        obtain ⟨A, c, hc, hx⟩ := T2.at_ k hlt'
        have hbl := T2.lt
        have ha : C.upto l (k + 1) = C.upto l k + l[k].length := C.upto_succ hlt'
        have hb := unhide hfl (k + 1)
        rw [ha] at hb
        have hq := unhide hS' k hlt' A c
        have hp := pcs_take l k hlt'
        have hsz := (unhide b2).size
        obtain ⟨p, hp0⟩ : ∃ p : Pc, p = ⟨(C.upto l k : Nat), l[k].length, C.sumR l[k]⟩ := ⟨_, rfl⟩
        rw [← hp0] at hp
        have hfp := flat_pc (pcsF 0 (l.take k)) p
        rw [← hp] at hfp
        have hpc : pcC p = #[.int .i64 (C.upto l k : Nat), .int .i64 l[k].length, u32v (C.sumR l[k])] := by rw [hp0]; rfl
        have hp1 := pcL_one p
        have hpl : (pcL p).length = 1 * 3 := rfl
        generalize C.sumR l[k] = S at *
        generalize l[k] = N at *
        generalize ha1 : C.upto l k = m at *
        generalize N.length = d at *
        have u1 : k + 1 ≤ maxLen := by simp only [maxLen]; omega
        have u2 : (k + 1) * 24 ≤ 140737488355328 := by omega
        have u3 : (0 : Int) ≤ (m : Int) + (d : Int) := by omega
        have u4 : (m : Int) + (d : Int) ≤ 65536 := by omega
        replace ha := hide ha; replace hq := hide hq; replace hfp := hide hfp; replace hpc := hide hpc; replace hp1 := hide hp1; replace u1 := hide u1; replace u2 := hide u2; replace hx := hide hx; replace hpl := hide hpl
        clear hp hp0 hb T2
        go_wp2_with (first
          | (go_at_call 23; refine (unhide hq _ (unhide hx)).mono ?_; rintro e wz ⟨rfl, rfl⟩)
          | (at_builtin
             refine wpList_app _ rfl (.tmp 16) (.tmp 23) 32 rfl w.heap.size 41 i0 _ 3 24 Tryd.underlying32 hi0 hz0 hz1 hz2 rfl (Nat.succ_pos _) _ k ((pcsF 0 (l.take k)).flatMap pcL) rfl ((unhide o2).alloc _) (some ⟨wr.heap.size, 0, none⟩) 1 1 (pcL p) rfl (unhide hpl) (pc_src (by rw [unhide hpc]; exact Blk.new rfl)) (unhide hp1) (unhide u1) (unhide u2) (by simp; omega) ?_
             intro v' w2 hown2 hg2
             obtain ⟨A3, c3, rfl⟩ := ownsRow_form hown2
             rw [unhide hfp] at hown2
             have B2 := hide (bl_grown (bl_alloc (unhide b2) _) hg2 (C.own_base (unhide o2)))
             replace hown2 := hide hown2
             clear hg2)
          | fail)
        go_roundw
        case rel => exact ⟨k + 1, c3, A3, by omega, by go_num, by rw [unhide ha]; go_num, rfl, hown2, B2⟩
        case measure => simp [intOf]; omega
      · obtain rfl : k = n := by omega
        go_wp2_with fail
        go_ret
        exact ⟨_, _, rfl, unhide o2, unhide b2⟩
end Go.Proofs.YthkccpemgmpadaaDoor

namespace Go.Proofs.YthkccpemgmpadaaDoor
set_option maxRecDepth 100000
open Go.RowKit

/-- A piece whose numbers are ints. -/
structure OkP (p : Pc) : Prop where
  a0 : -9223372036854775808 ≤ p.at_
  a1 : p.at_ ≤ 9223372036854775807
  l0 : -9223372036854775808 ≤ p.len
  l1 : p.len ≤ 9223372036854775807
/-- What find answers: a part of the text itself. -/
def FindOut (t : List UInt8) (p : Pc) (w : World) (e : Ending) (w' : World) : Prop :=
  ∃ A c, e = .returned (.tuple #[.slice A (findT t p).length c, .int .i64 (findE t p)]) ∧ Bs 0 w'.heap.size w' (.slice A (findT t p).length c) (findT t p) ∧ Below w.heap.size w w'
theorem FindOut.bad {t : List UInt8} {p : Pc} {w w' : World} {e : Ending} {er : Int} (h : findE t p = er) (h0 : er ≠ 0) (he : e = .returned (.tuple #[.slice none 0 0, .int .i64 er])) (hb : Below w.heap.size w w') : FindOut t p w e w' := by
  subst h
  have : findT t p = [] := by unfold findT; rw [if_neg h0]
  unfold FindOut
  rw [this]
  exact ⟨none, 0, he, Bs.nil0 w', hb⟩
theorem findE_low {t : List UInt8} {a l : Int} {s : Reg} (h : a < 0 ∨ l < 0 ∨ (t.length : Int) - a < l) : findE t ⟨a, l, s⟩ = 1 := by unfold findE; rw [if_pos h]
theorem findE_sum {t : List UInt8} {a l : Int} {s : Reg} (h : ¬ (a < 0 ∨ l < 0 ∨ (t.length : Int) - a < l)) : findE t ⟨a, l, s⟩ = if C.sumR ((t.drop a.toNat).take l.toNat) = s then 0 else 7 := by unfold findE; rw [if_neg h]
section
variable (v : Value) (t : List UInt8) (a l : Int) (s : Reg) (w : World) (h : Bs 0 w.heap.size w v t)
set_option maxHeartbeats 1000000 in
include h in
theorem find_low1 (g : a < 0) : Calls Tryd.prog 20 #[v, pcV ⟨a, l, s⟩] w (FindOut t ⟨a, l, s⟩ w) := by
  have hE := findE_low (t := t) (l := l) (s := s) (.inl g)
  obtain ⟨A, c, rfl⟩ := h.form
  generalize t.length = m at *
  replace hE := hide hE
  clear h
  unfold pcV
  go_enter Tryd.func20, Tryd.ntmps20
  go_wp2_with fail
  go_ret2
  exact FindOut.bad (unhide hE) (by decide) rfl (bl_alloc (Below.refl _ _) _)
set_option maxHeartbeats 1000000 in
include h in
theorem find_low2 (g : ¬ a < 0) (g2 : l < 0) : Calls Tryd.prog 20 #[v, pcV ⟨a, l, s⟩] w (FindOut t ⟨a, l, s⟩ w) := by
  have hE := findE_low (t := t) (a := a) (s := s) (.inr (.inl g2))
  obtain ⟨A, c, rfl⟩ := h.form
  generalize t.length = m at *
  replace hE := hide hE
  clear h
  unfold pcV
  go_enter Tryd.func20, Tryd.ntmps20
  go_wp2_with fail
  go_ret2
  exact FindOut.bad (unhide hE) (by decide) rfl (bl_alloc (Below.refl _ _) _)
set_option maxHeartbeats 1000000 in
include h in
theorem find_long (hl : t.length ≤ 1000000) (ha : a ≤ 9223372036854775807) (g : ¬ a < 0) (g2 : ¬ l < 0) (g3 : (t.length : Int) - a < l) : Calls Tryd.prog 20 #[v, pcV ⟨a, l, s⟩] w (FindOut t ⟨a, l, s⟩ w) := by
  have hE := findE_low (t := t) (a := a) (s := s) (.inr (.inr g3))
  obtain ⟨A, c, rfl⟩ := h.form
  have hw : IntKind.i64.wrap ((t.length : Int) - a) = (t.length : Int) - a := by rw [IntKind.wrap_i64]; omega
  generalize t.length = m at *
  replace hE := hide hE
  clear h hl ha
  unfold pcV
  go_enter Tryd.func20, Tryd.ntmps20
  go_wp2_with fail
  go_ret2
  exact FindOut.bad (unhide hE) (by decide) rfl (bl_alloc (Below.refl _ _) _)
set_option maxHeartbeats 1000000 in
include h in
theorem find_in (hl : t.length ≤ 1000000) (g : ¬ a < 0) (g2 : ¬ l < 0) (g3 : ¬ (t.length : Int) - a < l) : Calls Tryd.prog 20 #[v, pcV ⟨a, l, s⟩] w (FindOut t ⟨a, l, s⟩ w) := by
  have hE := findE_sum (t := t) (a := a) (l := l) (s := s) (by omega)
  obtain ⟨j, rfl⟩ : ∃ j : Nat, a = (j : Int) := ⟨a.toNat, by omega⟩
  obtain ⟨k, rfl⟩ : ∃ k : Nat, l = (k : Int) := ⟨l.toNat, by omega⟩
  simp only [Int.toNat_natCast] at hE
  obtain ⟨A, c, rfl⟩ := h.form
  obtain ⟨A1, c1, s1, b1⟩ := h.cut_lh j (j + k) j ((j : Int) + k) rfl (by omega) (by omega) (by omega)
  rw [show j + k - j = k by omega] at s1 b1
  have hT : findT t ⟨j, k, s⟩ = if findE t ⟨j, k, s⟩ = 0 then (t.drop j).take k else [] := by unfold findT; simp only [Int.toNat_natCast]
  have hkl : ((t.drop j).take k).length = k := by rw [List.length_take, List.length_drop]; omega
  have X0 : Fx w (w.alloc (.cells #[.int .i64 j, .int .i64 k, u32v s] 41)) [(w.heap.size, 41, #[.int .i64 j, .int .i64 k, u32v s])] [] [(.slice A1 k c1, (t.drop j).take k)] := ((Fx.nil w).addZ b1).newB w.heap.size rfl #[.int .i64 j, .int .i64 k, u32v s] 41
  have hS := fun W (h2 : Bs 0 W.heap.size W (.slice A1 k c1) ((t.drop j).take k)) => sum_u 0 W.heap.size _ _ W h2
  unfold FindOut
  rw [hT]
  have hw : IntKind.i64.wrap ((t.length : Int) - j) = (t.length : Int) - j := by rw [IntKind.wrap_i64]; omega
  have hw2 : IntKind.i64.wrap ((j : Int) + k) = (j : Int) + k := by rw [IntKind.wrap_i64]; omega
  have hw3 : (0 : Int) ≤ (j : Int) + k := by omega
  have hw4 : (j : Int) + k ≤ 1000000 := by omega
  have hw5 : (t.length : Int) - j ≤ 1000000 := by omega
  have hw6 : 0 ≤ (t.length : Int) - j := by omega
  obtain ⟨z, hz⟩ : ∃ z, z = (n32 (C.sumR ((t.drop j).take k)) == n32 s) := ⟨_, rfl⟩
  have hE' : findE t ⟨j, k, s⟩ = if z = true then 0 else 7 := by
    rw [hE, hz]
    by_cases hs : C.sumR ((t.drop j).take k) = s
    · rw [if_pos hs, if_pos (by rw [hs]; simp)]
    · rw [if_neg hs, if_neg (by rw [beq_iff_eq]; exact fun e => hs (n32_inj e))]
  rw [hE']
  clear hE hE' hT
  have hq : (n32 (C.sumR ((t.drop j).take k)) == n32 s) = z := hz.symm
  have hq' : (n32 (C.sumR ((t.drop j).take k)) != n32 s) = !z := by rw [bne, hq]
  clear hz
  generalize C.sumR ((t.drop j).take k) = S at *
  generalize (t.drop j).take k = T at *
  generalize t.length = m at *
  have hS' : ∀ W, Bs 0 W.heap.size W (.slice A1 k c1) T → ∀ n, Calls Tryd.prog 23 #[.slice A1 k c1] (W.drewN n) fun e w' => e = .returned (u32v S) ∧ W.drewN n = w' := fun W hW n => hS (W.drewN n) (hW.to (below_drewN (Below.refl _ _) n))
  clear hS h b1
  unfold pcV
  simp only []
  replace X0 := hide X0; replace hS' := hide hS'; replace hkl := hide hkl
  go_enter Tryd.func20, Tryd.ntmps20
  go_upto_region 1 with (fail)
  generalize hW : World.alloc w _ = W at *
  clear hW
  have c0 : W.cell? ⟨w.heap.size, 0, none⟩ = some (.int .i64 j) := ((unhide X0).get 0 rfl).cell 0
  have c1' : W.cell? ⟨w.heap.size, 1, none⟩ = some (.int .i64 k) := ((unhide X0).get 0 rfl).cell 1
  have c2 : W.cell? ⟨w.heap.size, 2, none⟩ = some (u32v s) := ((unhide X0).get 0 rfl).cell 2
  have lt := ((unhide X0).get 0 rfl).lt
  have hS2 := hide (unhide hS' W ((unhide X0).rd 0 rfl))
  go_upto_region 4 with (fail)
  go_quiet ((go_at_call 23; refine Calls.quiet_of_same ((unhide hS2 _).mono fun e w' h => ⟨h.1, h.2.symm⟩)))
  cases z with
  | true =>
    go_wp2_with fail
    go_ret2
    have Y := (unhide X0).drewN nq
    exact ⟨A1, c1, by rw [unhide hkl]; rfl, by rw [unhide hkl]; exact Y.rd 0 rfl, Y.bl⟩
  | false =>
    go_wp2_with fail
    go_ret2
    have Y := (unhide X0).drewN nq
    exact ⟨none, 0, rfl, Bs.nil0 _, Y.bl⟩
include h in
theorem find_any (hp : OkP ⟨a, l, s⟩) (hl : t.length ≤ 1000000) : Calls Tryd.prog 20 #[v, pcV ⟨a, l, s⟩] w (FindOut t ⟨a, l, s⟩ w) := by
  by_cases g1 : a < 0
  · exact find_low1 v t a l s w h g1
  · by_cases g2 : l < 0
    · exact find_low2 v t a l s w h g1 g2
    · by_cases g3 : (t.length : Int) - a < l
      · exact find_long v t a l s w h hl hp.a1 g1 g2 g3
      · exact find_in v t a l s w h hl g1 g2 g3
end

/-! ### Cut -/
theorem clone_u (lo : Nat) (v : Value) (l : List UInt8) (w : World) (h : Bs lo w.heap.size w v l) (hL : l.length ≤ 1000000) :
    Calls Tryd.prog 21 #[v] w fun e w' => ∃ A' c', e = .returned (.slice A' l.length c') ∧ OwnB w' w.heap.size (.slice A' l.length c') l ∧ Below w.heap.size w w' := C.bclone lo v l w (bs_C h) hL
theorem find_len (t : List UInt8) (p : Pc) : (findT t p).length ≤ t.length := by
  unfold findT
  split
  · rw [List.length_take, List.length_drop]; omega
  · simp
theorem find_none {t : List UInt8} {p : Pc} (h : findE t p ≠ 0) : findT t p = [] := by unfold findT; rw [if_neg h]
set_option maxHeartbeats 1000000 in
theorem Cut_any (v : Value) (t : List UInt8) (p : Pc) (w : World) (h : Bs 0 w.heap.size w v t) (hp : OkP p) (hl : t.length ≤ 1000000) :
    Calls Tryd.prog 11 #[v, pcV p] w (Ans (findT t p, findE t p) w) := by
  obtain ⟨a, l, s⟩ := p
  have hF := fun W (hb : Below w.heap.size w W) => find_any v t a l s W (h.to hb) hp hl
  have hC := fun v2 W (h2 : Bs 0 W.heap.size W v2 (findT t ⟨a, l, s⟩)) => clone_u 0 v2 _ W h2 (Nat.le_trans (find_len t ⟨a, l, s⟩) hl)
  have hN := find_none (t := t) (p := ⟨a, l, s⟩)
  obtain ⟨A, c, rfl⟩ := h.form
  unfold FindOut at hF
  generalize findT t ⟨a, l, s⟩ = T at *
  generalize findE t ⟨a, l, s⟩ = er at *
  obtain ⟨m, hm⟩ : ∃ m, T.length = m := ⟨_, rfl⟩
  rw [hm] at hF hC
  replace hF := hide hF; replace hC := hide hC; replace hm := hide hm; replace hN := hide hN
  generalize t.length = tm at *
  clear h hp hl
  unfold pcV at hF ⊢
  simp only [] at hF ⊢
  by_cases hz : er = 0
  · subst hz
    go_enter Tryd.func11, Tryd.ntmps11
    go_wp2_with (first
      | (go_at_call 20; refine (unhide hF _ (bl_alloc (Below.refl _ _) _)).mono ?_; rintro e w2 ⟨A2, c2, rfl, y2, hb2⟩
         have b2 := hide (bl_call (bl_alloc (Below.refl _ _) _) hb2)
         replace y2 := hide y2
         clear hb2)
      | (go_at_call 21; refine (unhide hC _ _ (unhide y2)).mono ?_; rintro e w3 ⟨A3, c3, rfl, o3, hb3⟩
         have o3' := hide (ownsRow_mono (base' := w.heap.size) o3 (unhide b2).size)
         have b3 := hide (bl_call (unhide b2) hb3)
         clear o3 hb3)
      | fail)
    go_ret2
    unfold Ans
    exact ⟨A3, c3, by rw [unhide hm]; rfl, by have := unhide o3'; rw [← unhide hm] at this; exact this, unhide b3⟩
  · have hz' : (er == 0) = false := by simpa using hz
    have hn := hide (unhide hN hz)
    clear hz
    go_enter Tryd.func11, Tryd.ntmps11
    go_wp2_with (first
      | (go_at_call 20; refine (unhide hF _ (bl_alloc (Below.refl _ _) _)).mono ?_; rintro e w2 ⟨A2, c2, rfl, y2, hb2⟩
         have b2 := hide (bl_call (bl_alloc (Below.refl _ _) _) hb2)
         clear hb2 y2)
      | fail)
    go_ret2
    exact Ans.none (er := er) (by rw [unhide hn]) rfl (unhide b2)
end Go.Proofs.YthkccpemgmpadaaDoor
