import Derived.Test.YtommlgdolahfbaaDoorRH
import Derived.Test.YtommlgdolahfbaaDoorW12
namespace Go.Proofs.YtommlgdolahfbaaDoor
set_option maxRecDepth 100000
open Go.RowKit

theorem Write_any (lo : Nat) (v : Value) (d : Dk) (r : Rt) (w : World) (ht : Tab w) (hT : OkT r) (h : Dsk lo w.heap.size w v d) (hL : d.dry.length ≤ 1000000) (hW : d.wet.length ≤ 400) :
    Calls Tryd.prog 15 #[v, (.agg #[.int .u64 (r.gen : Nat), .int .i64 r.at_, .int .i64 r.len, .int .i64 r.long, .int .u32 (r.sum : Nat), .int .u64 (r.next : Nat)])] w fun e w' => ∃ v' E, e = .returned (.tuple #[v', .int .i64 E]) ∧ Dsk w.heap.size w'.heap.size w' v' (wrR d r).1 ∧ E = (wrR d r).2 ∧ Below w.heap.size w w' := by
  cases hr : rOk r with
  | false =>
    have e : wrR d r = (noDk, 1) := by unfold wrR; rw [hr]; rfl
    refine (Write_form lo v d r w ht hT h hr).mono ?_
    rintro e' w' ⟨rfl, hb⟩
    rw [e]
    exact ⟨_, _, rfl, noDk_dsk' _ _ _, rfl, hb⟩
  | true =>
    cases hd : holdB d with
    | false =>
      have e : wrR d r = (noDk, 1) := by unfold wrR; rw [hr, hd]; rfl
      refine (Write_none lo v d r w ht hT h hr hd).mono ?_
      rintro e' w' ⟨rfl, hb⟩
      rw [e]
      exact ⟨_, _, rfl, noDk_dsk' _ _ _, rfl, hb⟩
    | true =>
      have hY := wrD_len d ((r.gen % 2 : Nat) : Int) (octs r) hL hW
      obtain ⟨X, EE, hX⟩ : ∃ X EE, wrD d ((r.gen % 2 : Nat) : Int) (octs r) = (X, EE) := ⟨_, _, rfl⟩
      rw [hX] at hY
      by_cases hE : EE = 0
      · have e : wrR d r = synD X := by unfold wrR; rw [hr, hd, hX]; simp [hE]
        rw [e]
        exact Write_goes lo v d r w ht hT h hL hW hr hd X EE hX hE hY
      · have e : wrR d r = (noDk, EE) := by unfold wrR; rw [hr, hd, hX]; simp [hE]
        refine (Write_dead lo v d r w ht hT h hL hW hr hd X EE hX hE).mono ?_
        rintro e' w' ⟨rfl, hb⟩
        rw [e]
        exact ⟨_, _, rfl, noDk_dsk' _ _ _, rfl, hb⟩

/-- The root that is read in a sector, if its turn is that. -/
def atR (d : Dk) (i : Nat) : Rt := if (rdD d i).2 = 0 ∧ ofB (rdD d i).1 = true ∧ (ofR (rdD d i).1).gen % 2 = i then ofR (rdD d i).1 else noRt
theorem atR_okT (d : Dk) (i : Nat) : OkT (atR d i) := by
  unfold atR
  split
  · exact ofR_okT _
  · exact ⟨by decide, by decide, by decide, by decide⟩
theorem Gx.set6 {w0 w : World} {L : List (Nat × TypeId × Array Value)} (h : Gx w0 w L [] []) {g : Nat} {t : TypeId} {a b c d e f : Value} (hk : Blk w g t #[a, b, c, d, e, f]) (hg : w0.heap.size ≤ g) (hL : ∀ p ∈ L, p.1 ≠ g) (x y z u p q : Value) :
    Gx w0 ((((((w.setCell ⟨g, 0, none⟩ x).setCell ⟨g, 1, none⟩ y).setCell ⟨g, 2, none⟩ z).setCell ⟨g, 3, none⟩ u).setCell ⟨g, 4, none⟩ p).setCell ⟨g, 5, none⟩ q) (L ++ [(g, t, #[x, y, z, u, p, q])]) [] [] := by
  refine Gx.addB (L := L) (Y := []) (Z := []) ⟨bl_set6 h.bl hg _ _ _ _ _ _, fun k hp => ?_, fun _ h => (nomatch h), fun _ h => (nomatch h)⟩ (Blk.set6 hk _ _ _ _ _ _)
  have hn := hL k hp
  exact ((((((h.blk k hp).far (p := ⟨g, 0, none⟩) hn x).far (p := ⟨g, 1, none⟩) hn y).far (p := ⟨g, 2, none⟩) hn z).far (p := ⟨g, 3, none⟩) hn u).far (p := ⟨g, 4, none⟩) hn p).far (p := ⟨g, 5, none⟩) hn q
set_option maxHeartbeats 4000000 in
theorem rootAt_read (lo : Nat) (v : Value) (d : Dk) (i : Nat) (w : World) (ht : Tab w) (h : Dsk lo w.heap.size w v d) (hL : d.dry.length ≤ 1000000) (hW : d.wet.length ≤ 1000) (b : List UInt8) (E : Int) (hb : rdD d i = (b, E)) (hE : E ≠ 0) :
    Calls Tryd.prog 41 #[v, .int .i64 (i : Nat)] w fun e w' => e = .returned (.agg #[.int .u64 (noRt.gen : Nat), .int .i64 noRt.at_, .int .i64 noRt.len, .int .i64 noRt.long, .int .u32 (noRt.sum : Nat), .int .u64 (noRt.next : Nat)]) ∧ Below w.heap.size w w' := by
  have hR0 := fun W (hB : Below w.heap.size w W) => read_any lo v d i W (h.grow hB) hL hW
  rw [hb] at hR0
  have hR : ∀ W, Below w.heap.size w W → Calls Tryd.prog 25 #[v, .int .i64 (i : Nat)] W fun e w' => ∃ A1 c1, e = .returned (.tuple #[.slice A1 b.length c1, .int .i64 E]) ∧ Bs W.heap.size w'.heap.size w' (.slice A1 b.length c1) b ∧ Below W.heap.size W w' := fun W hB => (hR0 W hB).mono fun e w' ⟨v', E', he, hx, hE, hb⟩ => by
    have hx' := hx
    obtain ⟨A1, c1, rfl, _⟩ := hx'
    exact ⟨A1, c1, by rw [he, hE], hx, hb⟩
  have hO := fun v1 W (hB : Below w.heap.size w W) (hx : Bs 0 W.heap.size W v1 b) => Of_any v1 0 b W (ht.below hB (Nat.le_refl _)) hx
  have hU := fun r W => turn_any r W
  obtain ⟨A, c, A', c', rfl⟩ := h.form
  have hE' : (E != 0) = true := by simp [hE]
  obtain ⟨q, hq⟩ : ∃ q, q = ofR b := ⟨_, rfl⟩
  clear h hR0 hL hW ht hb hq hE
  generalize d.dry.length = n at *
  generalize d.wet.length = m at *
  generalize d.left = l at *
  have X0 : Gx w ((w.alloc (.cells #[.slice A n c, .slice A' m c', .int .i64 l] 31)).alloc (.cells zR 27)) [(w.heap.size, 31, #[.slice A n c, .slice A' m c', .int .i64 l]), (w.heap.size + 1, 27, zR)] [] [] := ((Gx.nil w).newB w.heap.size rfl 31 #[.slice A n c, .slice A' m c', .int .i64 l]).newB (w.heap.size + 1) (by simp) 27 zR
  replace X0 := hide X0; replace hR := hide hR; replace hO := hide hO; replace hU := hide hU
  go_enter Tryd.func41, Tryd.ntmps41
  go_upto_region 1 with (fail)
  generalize hW : World.alloc (World.alloc w _) _ = W at *
  clear hW
  have a0 : W.cell? ⟨w.heap.size, 0, none⟩ = some (.slice A n c) := ((unhide X0).get 0 rfl).cell 0
  have a1 : W.cell? ⟨w.heap.size, 1, none⟩ = some (.slice A' m c') := ((unhide X0).get 0 rfl).cell 1
  have a2 : W.cell? ⟨w.heap.size, 2, none⟩ = some (.int .i64 l) := ((unhide X0).get 0 rfl).cell 2
  go_wp2_with (first
    | (go_at_call 25; refine (unhide hR _ (unhide X0).bl).mono ?_; rintro e w1 ⟨A1, c1, rfl, x1, b1⟩
       have X1 : Gx w w1 [(w.heap.size, 31, #[.slice A n c, .slice A' m c', .int .i64 l]), (w.heap.size + 1, 27, zR)] [] [(W.heap.size, w1.heap.size, .slice A1 b.length c1, b)] := ((unhide X0).call b1).addZ x1
       have ca0 : w1.cell? ⟨w.heap.size + 1, 0, none⟩ = some (.int .u64 0) := (X1.get 1 rfl).cell 0
       have ca1 : w1.cell? ⟨w.heap.size + 1, 1, none⟩ = some (.int .i64 0) := (X1.get 1 rfl).cell 1
       have ca2 : w1.cell? ⟨w.heap.size + 1, 2, none⟩ = some (.int .i64 0) := (X1.get 1 rfl).cell 2
       have ca3 : w1.cell? ⟨w.heap.size + 1, 3, none⟩ = some (.int .i64 0) := (X1.get 1 rfl).cell 3
       have ca4 : w1.cell? ⟨w.heap.size + 1, 4, none⟩ = some (.int .u32 0) := (X1.get 1 rfl).cell 4
       have ca5 : w1.cell? ⟨w.heap.size + 1, 5, none⟩ = some (.int .u64 0) := (X1.get 1 rfl).cell 5
       have fa0 : w1.frozen? ⟨w.heap.size + 1, 0, none⟩ = false := (X1.get 1 rfl).frozen 0
       have fa1 : w1.frozen? ⟨w.heap.size + 1, 1, none⟩ = false := (X1.get 1 rfl).frozen 1
       have fa2 : w1.frozen? ⟨w.heap.size + 1, 2, none⟩ = false := (X1.get 1 rfl).frozen 2
       have fa3 : w1.frozen? ⟨w.heap.size + 1, 3, none⟩ = false := (X1.get 1 rfl).frozen 3
       have fa4 : w1.frozen? ⟨w.heap.size + 1, 4, none⟩ = false := (X1.get 1 rfl).frozen 4
       have fa5 : w1.frozen? ⟨w.heap.size + 1, 5, none⟩ = false := (X1.get 1 rfl).frozen 5
       have m1 : w.heap.size + 1 < w1.heap.size := (X1.get 1 rfl).lt
       replace X1 := hide X1
       clear b1 x1)
    | (go_at_call 13; refine (unhide hO _ _ (unhide X1).bl ((unhide X1).rd 0 rfl)).mono ?_; rintro e w2 ⟨rfl, b2⟩
       have X2 : Gx w w2 [(w.heap.size, 31, #[.slice A n c, .slice A' m c', .int .i64 l]), (w.heap.size + 1, 27, zR)] [] [] := ((unhide X1).call b2).sub (fun _ h => h) (fun _ h => h) (fun _ h => (nomatch h))
       have cb0 : w2.cell? ⟨w.heap.size + 1, 0, none⟩ = some (.int .u64 0) := (X2.get 1 rfl).cell 0
       have cb1 : w2.cell? ⟨w.heap.size + 1, 1, none⟩ = some (.int .i64 0) := (X2.get 1 rfl).cell 1
       have cb2 : w2.cell? ⟨w.heap.size + 1, 2, none⟩ = some (.int .i64 0) := (X2.get 1 rfl).cell 2
       have cb3 : w2.cell? ⟨w.heap.size + 1, 3, none⟩ = some (.int .i64 0) := (X2.get 1 rfl).cell 3
       have cb4 : w2.cell? ⟨w.heap.size + 1, 4, none⟩ = some (.int .u32 0) := (X2.get 1 rfl).cell 4
       have cb5 : w2.cell? ⟨w.heap.size + 1, 5, none⟩ = some (.int .u64 0) := (X2.get 1 rfl).cell 5
       have fb0 : w2.frozen? ⟨w.heap.size + 1, 0, none⟩ = false := (X2.get 1 rfl).frozen 0
       have fb1 : w2.frozen? ⟨w.heap.size + 1, 1, none⟩ = false := (X2.get 1 rfl).frozen 1
       have fb2 : w2.frozen? ⟨w.heap.size + 1, 2, none⟩ = false := (X2.get 1 rfl).frozen 2
       have fb3 : w2.frozen? ⟨w.heap.size + 1, 3, none⟩ = false := (X2.get 1 rfl).frozen 3
       have fb4 : w2.frozen? ⟨w.heap.size + 1, 4, none⟩ = false := (X2.get 1 rfl).frozen 4
       have fb5 : w2.frozen? ⟨w.heap.size + 1, 5, none⟩ = false := (X2.get 1 rfl).frozen 5
       have m2 : w.heap.size + 1 < w2.heap.size := (X2.get 1 rfl).lt
       have X3 := hide (X2.newB w2.heap.size rfl 27 #[.int .u64 (q.gen : Nat), .int .i64 q.at_, .int .i64 q.len, .int .i64 q.long, .int .u32 (q.sum : Nat), .int .u64 (q.next : Nat)])
       replace X2 := hide X2
       clear b2)
    | fail)
  exact ret_r1 rfl (w.heap.size + 1) _ rfl rfl (Blk.set6 ((unhide X1).get 1 rfl) _ _ _ _ _ _) rfl ⟨rfl, bl_set6 (unhide X1).bl (by omega) _ _ _ _ _ _⟩
set_option maxHeartbeats 4000000 in
theorem rootAt_form (lo : Nat) (v : Value) (d : Dk) (i : Nat) (w : World) (ht : Tab w) (h : Dsk lo w.heap.size w v d) (hL : d.dry.length ≤ 1000000) (hW : d.wet.length ≤ 1000) (b : List UInt8) (E : Int) (hb : rdD d i = (b, E)) (hE : E = 0) (hf : ofB b = false) :
    Calls Tryd.prog 41 #[v, .int .i64 (i : Nat)] w fun e w' => e = .returned (.agg #[.int .u64 (noRt.gen : Nat), .int .i64 noRt.at_, .int .i64 noRt.len, .int .i64 noRt.long, .int .u32 (noRt.sum : Nat), .int .u64 (noRt.next : Nat)]) ∧ Below w.heap.size w w' := by
  have hR0 := fun W (hB : Below w.heap.size w W) => read_any lo v d i W (h.grow hB) hL hW
  rw [hb] at hR0
  have hR : ∀ W, Below w.heap.size w W → Calls Tryd.prog 25 #[v, .int .i64 (i : Nat)] W fun e w' => ∃ A1 c1, e = .returned (.tuple #[.slice A1 b.length c1, .int .i64 E]) ∧ Bs W.heap.size w'.heap.size w' (.slice A1 b.length c1) b ∧ Below W.heap.size W w' := fun W hB => (hR0 W hB).mono fun e w' ⟨v', E', he, hx, hE, hb⟩ => by
    have hx' := hx
    obtain ⟨A1, c1, rfl, _⟩ := hx'
    exact ⟨A1, c1, by rw [he, hE], hx, hb⟩
  have hO := fun v1 W (hB : Below w.heap.size w W) (hx : Bs 0 W.heap.size W v1 b) => Of_any v1 0 b W (ht.below hB (Nat.le_refl _)) hx
  have hU := fun r W => turn_any r W
  obtain ⟨A, c, A', c', rfl⟩ := h.form
  subst hE
  have e1 : ofE b = 2 := by unfold ofE; rw [hf]; rfl
  rw [e1] at hO
  obtain ⟨q, hq⟩ : ∃ q, q = ofR b := ⟨_, rfl⟩
  rw [← hq] at hO
  clear h hR0 hL hW ht hb hq hf e1
  generalize d.dry.length = n at *
  generalize d.wet.length = m at *
  generalize d.left = l at *
  have X0 : Gx w ((w.alloc (.cells #[.slice A n c, .slice A' m c', .int .i64 l] 31)).alloc (.cells zR 27)) [(w.heap.size, 31, #[.slice A n c, .slice A' m c', .int .i64 l]), (w.heap.size + 1, 27, zR)] [] [] := ((Gx.nil w).newB w.heap.size rfl 31 #[.slice A n c, .slice A' m c', .int .i64 l]).newB (w.heap.size + 1) (by simp) 27 zR
  replace X0 := hide X0; replace hR := hide hR; replace hO := hide hO; replace hU := hide hU
  go_enter Tryd.func41, Tryd.ntmps41
  go_upto_region 1 with (fail)
  generalize hW : World.alloc (World.alloc w _) _ = W at *
  clear hW
  have a0 : W.cell? ⟨w.heap.size, 0, none⟩ = some (.slice A n c) := ((unhide X0).get 0 rfl).cell 0
  have a1 : W.cell? ⟨w.heap.size, 1, none⟩ = some (.slice A' m c') := ((unhide X0).get 0 rfl).cell 1
  have a2 : W.cell? ⟨w.heap.size, 2, none⟩ = some (.int .i64 l) := ((unhide X0).get 0 rfl).cell 2
  go_upto_region 6 with (first
    | (go_at_call 25; refine (unhide hR _ (unhide X0).bl).mono ?_; rintro e w1 ⟨A1, c1, rfl, x1, b1⟩
       have X1 : Gx w w1 [(w.heap.size, 31, #[.slice A n c, .slice A' m c', .int .i64 l]), (w.heap.size + 1, 27, zR)] [] [(W.heap.size, w1.heap.size, .slice A1 b.length c1, b)] := ((unhide X0).call b1).addZ x1
       have ca0 : w1.cell? ⟨w.heap.size + 1, 0, none⟩ = some (.int .u64 0) := (X1.get 1 rfl).cell 0
       have ca1 : w1.cell? ⟨w.heap.size + 1, 1, none⟩ = some (.int .i64 0) := (X1.get 1 rfl).cell 1
       have ca2 : w1.cell? ⟨w.heap.size + 1, 2, none⟩ = some (.int .i64 0) := (X1.get 1 rfl).cell 2
       have ca3 : w1.cell? ⟨w.heap.size + 1, 3, none⟩ = some (.int .i64 0) := (X1.get 1 rfl).cell 3
       have ca4 : w1.cell? ⟨w.heap.size + 1, 4, none⟩ = some (.int .u32 0) := (X1.get 1 rfl).cell 4
       have ca5 : w1.cell? ⟨w.heap.size + 1, 5, none⟩ = some (.int .u64 0) := (X1.get 1 rfl).cell 5
       have fa0 : w1.frozen? ⟨w.heap.size + 1, 0, none⟩ = false := (X1.get 1 rfl).frozen 0
       have fa1 : w1.frozen? ⟨w.heap.size + 1, 1, none⟩ = false := (X1.get 1 rfl).frozen 1
       have fa2 : w1.frozen? ⟨w.heap.size + 1, 2, none⟩ = false := (X1.get 1 rfl).frozen 2
       have fa3 : w1.frozen? ⟨w.heap.size + 1, 3, none⟩ = false := (X1.get 1 rfl).frozen 3
       have fa4 : w1.frozen? ⟨w.heap.size + 1, 4, none⟩ = false := (X1.get 1 rfl).frozen 4
       have fa5 : w1.frozen? ⟨w.heap.size + 1, 5, none⟩ = false := (X1.get 1 rfl).frozen 5
       have m1 : w.heap.size + 1 < w1.heap.size := (X1.get 1 rfl).lt
       replace X1 := hide X1
       clear b1 x1)
    | (go_at_call 13; refine (unhide hO _ _ (unhide X1).bl ((unhide X1).rd 0 rfl)).mono ?_; rintro e w2 ⟨rfl, b2⟩
       have X2 : Gx w w2 [(w.heap.size, 31, #[.slice A n c, .slice A' m c', .int .i64 l]), (w.heap.size + 1, 27, zR)] [] [] := ((unhide X1).call b2).sub (fun _ h => h) (fun _ h => h) (fun _ h => (nomatch h))
       have cb0 : w2.cell? ⟨w.heap.size + 1, 0, none⟩ = some (.int .u64 0) := (X2.get 1 rfl).cell 0
       have cb1 : w2.cell? ⟨w.heap.size + 1, 1, none⟩ = some (.int .i64 0) := (X2.get 1 rfl).cell 1
       have cb2 : w2.cell? ⟨w.heap.size + 1, 2, none⟩ = some (.int .i64 0) := (X2.get 1 rfl).cell 2
       have cb3 : w2.cell? ⟨w.heap.size + 1, 3, none⟩ = some (.int .i64 0) := (X2.get 1 rfl).cell 3
       have cb4 : w2.cell? ⟨w.heap.size + 1, 4, none⟩ = some (.int .u32 0) := (X2.get 1 rfl).cell 4
       have cb5 : w2.cell? ⟨w.heap.size + 1, 5, none⟩ = some (.int .u64 0) := (X2.get 1 rfl).cell 5
       have fb0 : w2.frozen? ⟨w.heap.size + 1, 0, none⟩ = false := (X2.get 1 rfl).frozen 0
       have fb1 : w2.frozen? ⟨w.heap.size + 1, 1, none⟩ = false := (X2.get 1 rfl).frozen 1
       have fb2 : w2.frozen? ⟨w.heap.size + 1, 2, none⟩ = false := (X2.get 1 rfl).frozen 2
       have fb3 : w2.frozen? ⟨w.heap.size + 1, 3, none⟩ = false := (X2.get 1 rfl).frozen 3
       have fb4 : w2.frozen? ⟨w.heap.size + 1, 4, none⟩ = false := (X2.get 1 rfl).frozen 4
       have fb5 : w2.frozen? ⟨w.heap.size + 1, 5, none⟩ = false := (X2.get 1 rfl).frozen 5
       have m2 : w.heap.size + 1 < w2.heap.size := (X2.get 1 rfl).lt
       have X3 := hide (X2.newB w2.heap.size rfl 27 #[.int .u64 (q.gen : Nat), .int .i64 q.at_, .int .i64 q.len, .int .i64 q.long, .int .u32 (q.sum : Nat), .int .u64 (q.next : Nat)])
       replace X2 := hide X2
       clear b2)
    | fail)
  have X5 := unhide X3
  generalize w2.alloc (.cells #[.int .u64 (q.gen : Nat), .int .i64 q.at_, .int .i64 q.len, .int .i64 q.long, .int .u32 (q.sum : Nat), .int .u64 (q.next : Nat)] 27) = V at *
  have cc0 : V.cell? ⟨w.heap.size + 1, 0, none⟩ = some (.int .u64 0) := (X5.get 1 rfl).cell 0
  have cc1 : V.cell? ⟨w.heap.size + 1, 1, none⟩ = some (.int .i64 0) := (X5.get 1 rfl).cell 1
  have cc2 : V.cell? ⟨w.heap.size + 1, 2, none⟩ = some (.int .i64 0) := (X5.get 1 rfl).cell 2
  have cc3 : V.cell? ⟨w.heap.size + 1, 3, none⟩ = some (.int .i64 0) := (X5.get 1 rfl).cell 3
  have cc4 : V.cell? ⟨w.heap.size + 1, 4, none⟩ = some (.int .u32 0) := (X5.get 1 rfl).cell 4
  have cc5 : V.cell? ⟨w.heap.size + 1, 5, none⟩ = some (.int .u64 0) := (X5.get 1 rfl).cell 5
  have fc0 : V.frozen? ⟨w.heap.size + 1, 0, none⟩ = false := (X5.get 1 rfl).frozen 0
  have fc1 : V.frozen? ⟨w.heap.size + 1, 1, none⟩ = false := (X5.get 1 rfl).frozen 1
  have fc2 : V.frozen? ⟨w.heap.size + 1, 2, none⟩ = false := (X5.get 1 rfl).frozen 2
  have fc3 : V.frozen? ⟨w.heap.size + 1, 3, none⟩ = false := (X5.get 1 rfl).frozen 3
  have fc4 : V.frozen? ⟨w.heap.size + 1, 4, none⟩ = false := (X5.get 1 rfl).frozen 4
  have fc5 : V.frozen? ⟨w.heap.size + 1, 5, none⟩ = false := (X5.get 1 rfl).frozen 5
  replace X5 := hide X5
  clear X3
  go_wp2_with fail
  exact ret_r1 rfl (w.heap.size + 1) _ rfl rfl (Blk.set6 ((unhide X5).get 1 rfl) _ _ _ _ _ _) rfl ⟨rfl, bl_set6 (unhide X5).bl (by omega) _ _ _ _ _ _⟩
set_option maxHeartbeats 4000000 in
theorem rootAt_turn (lo : Nat) (v : Value) (d : Dk) (i : Nat) (w : World) (ht : Tab w) (h : Dsk lo w.heap.size w v d) (hL : d.dry.length ≤ 1000000) (hW : d.wet.length ≤ 1000) (b : List UInt8) (E : Int) (hb : rdD d i = (b, E)) (hE : E = 0) (hf : ofB b = true) (hi : (ofR b).gen % 2 ≠ i) :
    Calls Tryd.prog 41 #[v, .int .i64 (i : Nat)] w fun e w' => e = .returned (.agg #[.int .u64 (noRt.gen : Nat), .int .i64 noRt.at_, .int .i64 noRt.len, .int .i64 noRt.long, .int .u32 (noRt.sum : Nat), .int .u64 (noRt.next : Nat)]) ∧ Below w.heap.size w w' := by
  have hR0 := fun W (hB : Below w.heap.size w W) => read_any lo v d i W (h.grow hB) hL hW
  rw [hb] at hR0
  have hR : ∀ W, Below w.heap.size w W → Calls Tryd.prog 25 #[v, .int .i64 (i : Nat)] W fun e w' => ∃ A1 c1, e = .returned (.tuple #[.slice A1 b.length c1, .int .i64 E]) ∧ Bs W.heap.size w'.heap.size w' (.slice A1 b.length c1) b ∧ Below W.heap.size W w' := fun W hB => (hR0 W hB).mono fun e w' ⟨v', E', he, hx, hE, hb⟩ => by
    have hx' := hx
    obtain ⟨A1, c1, rfl, _⟩ := hx'
    exact ⟨A1, c1, by rw [he, hE], hx, hb⟩
  have hO := fun v1 W (hB : Below w.heap.size w W) (hx : Bs 0 W.heap.size W v1 b) => Of_any v1 0 b W (ht.below hB (Nat.le_refl _)) hx
  have hU := fun r W => turn_any r W
  obtain ⟨A, c, A', c', rfl⟩ := h.form
  subst hE
  have e1 : ofE b = 0 := by unfold ofE; rw [hf]; rfl
  rw [e1] at hO
  have hi1 : (((ofR b).gen % 2 : Nat) : Int) ≠ (i : Int) := by omega
  obtain ⟨q, hq⟩ : ∃ q, q = ofR b := ⟨_, rfl⟩
  rw [← hq] at hO hi1
  clear h hR0 hL hW ht hb hq hf e1 hi
  generalize d.dry.length = n at *
  generalize d.wet.length = m at *
  generalize d.left = l at *
  have X0 : Gx w ((w.alloc (.cells #[.slice A n c, .slice A' m c', .int .i64 l] 31)).alloc (.cells zR 27)) [(w.heap.size, 31, #[.slice A n c, .slice A' m c', .int .i64 l]), (w.heap.size + 1, 27, zR)] [] [] := ((Gx.nil w).newB w.heap.size rfl 31 #[.slice A n c, .slice A' m c', .int .i64 l]).newB (w.heap.size + 1) (by simp) 27 zR
  replace X0 := hide X0; replace hR := hide hR; replace hO := hide hO; replace hU := hide hU
  go_enter Tryd.func41, Tryd.ntmps41
  go_upto_region 1 with (fail)
  generalize hW : World.alloc (World.alloc w _) _ = W at *
  clear hW
  have a0 : W.cell? ⟨w.heap.size, 0, none⟩ = some (.slice A n c) := ((unhide X0).get 0 rfl).cell 0
  have a1 : W.cell? ⟨w.heap.size, 1, none⟩ = some (.slice A' m c') := ((unhide X0).get 0 rfl).cell 1
  have a2 : W.cell? ⟨w.heap.size, 2, none⟩ = some (.int .i64 l) := ((unhide X0).get 0 rfl).cell 2
  go_wp2_with (first
    | (go_at_call 25; refine (unhide hR _ (unhide X0).bl).mono ?_; rintro e w1 ⟨A1, c1, rfl, x1, b1⟩
       have X1 : Gx w w1 [(w.heap.size, 31, #[.slice A n c, .slice A' m c', .int .i64 l]), (w.heap.size + 1, 27, zR)] [] [(W.heap.size, w1.heap.size, .slice A1 b.length c1, b)] := ((unhide X0).call b1).addZ x1
       have ca0 : w1.cell? ⟨w.heap.size + 1, 0, none⟩ = some (.int .u64 0) := (X1.get 1 rfl).cell 0
       have ca1 : w1.cell? ⟨w.heap.size + 1, 1, none⟩ = some (.int .i64 0) := (X1.get 1 rfl).cell 1
       have ca2 : w1.cell? ⟨w.heap.size + 1, 2, none⟩ = some (.int .i64 0) := (X1.get 1 rfl).cell 2
       have ca3 : w1.cell? ⟨w.heap.size + 1, 3, none⟩ = some (.int .i64 0) := (X1.get 1 rfl).cell 3
       have ca4 : w1.cell? ⟨w.heap.size + 1, 4, none⟩ = some (.int .u32 0) := (X1.get 1 rfl).cell 4
       have ca5 : w1.cell? ⟨w.heap.size + 1, 5, none⟩ = some (.int .u64 0) := (X1.get 1 rfl).cell 5
       have fa0 : w1.frozen? ⟨w.heap.size + 1, 0, none⟩ = false := (X1.get 1 rfl).frozen 0
       have fa1 : w1.frozen? ⟨w.heap.size + 1, 1, none⟩ = false := (X1.get 1 rfl).frozen 1
       have fa2 : w1.frozen? ⟨w.heap.size + 1, 2, none⟩ = false := (X1.get 1 rfl).frozen 2
       have fa3 : w1.frozen? ⟨w.heap.size + 1, 3, none⟩ = false := (X1.get 1 rfl).frozen 3
       have fa4 : w1.frozen? ⟨w.heap.size + 1, 4, none⟩ = false := (X1.get 1 rfl).frozen 4
       have fa5 : w1.frozen? ⟨w.heap.size + 1, 5, none⟩ = false := (X1.get 1 rfl).frozen 5
       have m1 : w.heap.size + 1 < w1.heap.size := (X1.get 1 rfl).lt
       replace X1 := hide X1
       clear b1 x1)
    | (go_at_call 13; refine (unhide hO _ _ (unhide X1).bl ((unhide X1).rd 0 rfl)).mono ?_; rintro e w2 ⟨rfl, b2⟩
       have X2 : Gx w w2 [(w.heap.size, 31, #[.slice A n c, .slice A' m c', .int .i64 l]), (w.heap.size + 1, 27, zR)] [] [] := ((unhide X1).call b2).sub (fun _ h => h) (fun _ h => h) (fun _ h => (nomatch h))
       have cb0 : w2.cell? ⟨w.heap.size + 1, 0, none⟩ = some (.int .u64 0) := (X2.get 1 rfl).cell 0
       have cb1 : w2.cell? ⟨w.heap.size + 1, 1, none⟩ = some (.int .i64 0) := (X2.get 1 rfl).cell 1
       have cb2 : w2.cell? ⟨w.heap.size + 1, 2, none⟩ = some (.int .i64 0) := (X2.get 1 rfl).cell 2
       have cb3 : w2.cell? ⟨w.heap.size + 1, 3, none⟩ = some (.int .i64 0) := (X2.get 1 rfl).cell 3
       have cb4 : w2.cell? ⟨w.heap.size + 1, 4, none⟩ = some (.int .u32 0) := (X2.get 1 rfl).cell 4
       have cb5 : w2.cell? ⟨w.heap.size + 1, 5, none⟩ = some (.int .u64 0) := (X2.get 1 rfl).cell 5
       have fb0 : w2.frozen? ⟨w.heap.size + 1, 0, none⟩ = false := (X2.get 1 rfl).frozen 0
       have fb1 : w2.frozen? ⟨w.heap.size + 1, 1, none⟩ = false := (X2.get 1 rfl).frozen 1
       have fb2 : w2.frozen? ⟨w.heap.size + 1, 2, none⟩ = false := (X2.get 1 rfl).frozen 2
       have fb3 : w2.frozen? ⟨w.heap.size + 1, 3, none⟩ = false := (X2.get 1 rfl).frozen 3
       have fb4 : w2.frozen? ⟨w.heap.size + 1, 4, none⟩ = false := (X2.get 1 rfl).frozen 4
       have fb5 : w2.frozen? ⟨w.heap.size + 1, 5, none⟩ = false := (X2.get 1 rfl).frozen 5
       have m2 : w.heap.size + 1 < w2.heap.size := (X2.get 1 rfl).lt
       have X3 := hide (X2.newB w2.heap.size rfl 27 #[.int .u64 (q.gen : Nat), .int .i64 q.at_, .int .i64 q.len, .int .i64 q.long, .int .u32 (q.sum : Nat), .int .u64 (q.next : Nat)])
       replace X2 := hide X2
       clear b2)
    | (go_at_call 36; refine (unhide hU _ _).mono ?_; rintro e w4 ⟨rfl, b4⟩
       have X4 := (unhide X3).call b4
       have p0 : w4.cell? ⟨w.heap.size + 1, 0, none⟩ = some (.int .u64 0) := (X4.get 1 rfl).cell 0
       have p1 : w4.cell? ⟨w.heap.size + 1, 1, none⟩ = some (.int .i64 0) := (X4.get 1 rfl).cell 1
       have p2 : w4.cell? ⟨w.heap.size + 1, 2, none⟩ = some (.int .i64 0) := (X4.get 1 rfl).cell 2
       have p3 : w4.cell? ⟨w.heap.size + 1, 3, none⟩ = some (.int .i64 0) := (X4.get 1 rfl).cell 3
       have p4 : w4.cell? ⟨w.heap.size + 1, 4, none⟩ = some (.int .u32 0) := (X4.get 1 rfl).cell 4
       have p5 : w4.cell? ⟨w.heap.size + 1, 5, none⟩ = some (.int .u64 0) := (X4.get 1 rfl).cell 5
       have r0 : w4.frozen? ⟨w.heap.size + 1, 0, none⟩ = false := (X4.get 1 rfl).frozen 0
       have r1 : w4.frozen? ⟨w.heap.size + 1, 1, none⟩ = false := (X4.get 1 rfl).frozen 1
       have r2 : w4.frozen? ⟨w.heap.size + 1, 2, none⟩ = false := (X4.get 1 rfl).frozen 2
       have r3 : w4.frozen? ⟨w.heap.size + 1, 3, none⟩ = false := (X4.get 1 rfl).frozen 3
       have r4 : w4.frozen? ⟨w.heap.size + 1, 4, none⟩ = false := (X4.get 1 rfl).frozen 4
       have r5 : w4.frozen? ⟨w.heap.size + 1, 5, none⟩ = false := (X4.get 1 rfl).frozen 5
       have s0 : w4.cell? ⟨w2.heap.size, 0, none⟩ = some (.int .u64 (q.gen : Nat)) := (X4.get 2 rfl).cell 0
       have s1 : w4.cell? ⟨w2.heap.size, 1, none⟩ = some (.int .i64 q.at_) := (X4.get 2 rfl).cell 1
       have s2 : w4.cell? ⟨w2.heap.size, 2, none⟩ = some (.int .i64 q.len) := (X4.get 2 rfl).cell 2
       have s3 : w4.cell? ⟨w2.heap.size, 3, none⟩ = some (.int .i64 q.long) := (X4.get 2 rfl).cell 3
       have s4 : w4.cell? ⟨w2.heap.size, 4, none⟩ = some (.int .u32 (q.sum : Nat)) := (X4.get 2 rfl).cell 4
       have s5 : w4.cell? ⟨w2.heap.size, 5, none⟩ = some (.int .u64 (q.next : Nat)) := (X4.get 2 rfl).cell 5
       have m4 : w.heap.size + 1 < w4.heap.size := (X4.get 1 rfl).lt
       replace X4 := hide X4
       clear b4)
    | fail)
  exact ret_r1 rfl (w.heap.size + 1) _ rfl rfl (Blk.set6 ((unhide X4).get 1 rfl) _ _ _ _ _ _) rfl ⟨rfl, bl_set6 (unhide X4).bl (by omega) _ _ _ _ _ _⟩
set_option maxHeartbeats 4000000 in
theorem rootAt_good (lo : Nat) (v : Value) (d : Dk) (i : Nat) (w : World) (ht : Tab w) (h : Dsk lo w.heap.size w v d) (hL : d.dry.length ≤ 1000000) (hW : d.wet.length ≤ 1000) (b : List UInt8) (E : Int) (hb : rdD d i = (b, E)) (hE : E = 0) (hf : ofB b = true) (hi : (ofR b).gen % 2 = i) :
    Calls Tryd.prog 41 #[v, .int .i64 (i : Nat)] w fun e w' => e = .returned (.agg #[.int .u64 ((ofR b).gen : Nat), .int .i64 (ofR b).at_, .int .i64 (ofR b).len, .int .i64 (ofR b).long, .int .u32 ((ofR b).sum : Nat), .int .u64 ((ofR b).next : Nat)]) ∧ Below w.heap.size w w' := by
  have hR0 := fun W (hB : Below w.heap.size w W) => read_any lo v d i W (h.grow hB) hL hW
  rw [hb] at hR0
  have hR : ∀ W, Below w.heap.size w W → Calls Tryd.prog 25 #[v, .int .i64 (i : Nat)] W fun e w' => ∃ A1 c1, e = .returned (.tuple #[.slice A1 b.length c1, .int .i64 E]) ∧ Bs W.heap.size w'.heap.size w' (.slice A1 b.length c1) b ∧ Below W.heap.size W w' := fun W hB => (hR0 W hB).mono fun e w' ⟨v', E', he, hx, hE, hb⟩ => by
    have hx' := hx
    obtain ⟨A1, c1, rfl, _⟩ := hx'
    exact ⟨A1, c1, by rw [he, hE], hx, hb⟩
  have hO := fun v1 W (hB : Below w.heap.size w W) (hx : Bs 0 W.heap.size W v1 b) => Of_any v1 0 b W (ht.below hB (Nat.le_refl _)) hx
  have hU := fun r W => turn_any r W
  obtain ⟨A, c, A', c', rfl⟩ := h.form
  subst hE
  have e1 : ofE b = 0 := by unfold ofE; rw [hf]; rfl
  rw [e1] at hO
  rw [show i = (ofR b).gen % 2 from hi.symm]
  rw [show i = (ofR b).gen % 2 from hi.symm] at hR
  obtain ⟨q, hq⟩ : ∃ q, q = ofR b := ⟨_, rfl⟩
  rw [← hq] at hO hR ⊢
  clear h hR0 hL hW ht hb hq hf e1 hi
  generalize d.dry.length = n at *
  generalize d.wet.length = m at *
  generalize d.left = l at *
  have X0 : Gx w ((w.alloc (.cells #[.slice A n c, .slice A' m c', .int .i64 l] 31)).alloc (.cells zR 27)) [(w.heap.size, 31, #[.slice A n c, .slice A' m c', .int .i64 l]), (w.heap.size + 1, 27, zR)] [] [] := ((Gx.nil w).newB w.heap.size rfl 31 #[.slice A n c, .slice A' m c', .int .i64 l]).newB (w.heap.size + 1) (by simp) 27 zR
  replace X0 := hide X0; replace hR := hide hR; replace hO := hide hO; replace hU := hide hU
  go_enter Tryd.func41, Tryd.ntmps41
  go_upto_region 1 with (fail)
  generalize hW : World.alloc (World.alloc w _) _ = W at *
  clear hW
  have a0 : W.cell? ⟨w.heap.size, 0, none⟩ = some (.slice A n c) := ((unhide X0).get 0 rfl).cell 0
  have a1 : W.cell? ⟨w.heap.size, 1, none⟩ = some (.slice A' m c') := ((unhide X0).get 0 rfl).cell 1
  have a2 : W.cell? ⟨w.heap.size, 2, none⟩ = some (.int .i64 l) := ((unhide X0).get 0 rfl).cell 2
  go_wp2_with (first
    | (go_at_call 25; refine (unhide hR _ (unhide X0).bl).mono ?_; rintro e w1 ⟨A1, c1, rfl, x1, b1⟩
       have X1 : Gx w w1 [(w.heap.size, 31, #[.slice A n c, .slice A' m c', .int .i64 l]), (w.heap.size + 1, 27, zR)] [] [(W.heap.size, w1.heap.size, .slice A1 b.length c1, b)] := ((unhide X0).call b1).addZ x1
       have ca0 : w1.cell? ⟨w.heap.size + 1, 0, none⟩ = some (.int .u64 0) := (X1.get 1 rfl).cell 0
       have ca1 : w1.cell? ⟨w.heap.size + 1, 1, none⟩ = some (.int .i64 0) := (X1.get 1 rfl).cell 1
       have ca2 : w1.cell? ⟨w.heap.size + 1, 2, none⟩ = some (.int .i64 0) := (X1.get 1 rfl).cell 2
       have ca3 : w1.cell? ⟨w.heap.size + 1, 3, none⟩ = some (.int .i64 0) := (X1.get 1 rfl).cell 3
       have ca4 : w1.cell? ⟨w.heap.size + 1, 4, none⟩ = some (.int .u32 0) := (X1.get 1 rfl).cell 4
       have ca5 : w1.cell? ⟨w.heap.size + 1, 5, none⟩ = some (.int .u64 0) := (X1.get 1 rfl).cell 5
       have fa0 : w1.frozen? ⟨w.heap.size + 1, 0, none⟩ = false := (X1.get 1 rfl).frozen 0
       have fa1 : w1.frozen? ⟨w.heap.size + 1, 1, none⟩ = false := (X1.get 1 rfl).frozen 1
       have fa2 : w1.frozen? ⟨w.heap.size + 1, 2, none⟩ = false := (X1.get 1 rfl).frozen 2
       have fa3 : w1.frozen? ⟨w.heap.size + 1, 3, none⟩ = false := (X1.get 1 rfl).frozen 3
       have fa4 : w1.frozen? ⟨w.heap.size + 1, 4, none⟩ = false := (X1.get 1 rfl).frozen 4
       have fa5 : w1.frozen? ⟨w.heap.size + 1, 5, none⟩ = false := (X1.get 1 rfl).frozen 5
       have m1 : w.heap.size + 1 < w1.heap.size := (X1.get 1 rfl).lt
       replace X1 := hide X1
       clear b1 x1)
    | (go_at_call 13; refine (unhide hO _ _ (unhide X1).bl ((unhide X1).rd 0 rfl)).mono ?_; rintro e w2 ⟨rfl, b2⟩
       have X2 : Gx w w2 [(w.heap.size, 31, #[.slice A n c, .slice A' m c', .int .i64 l]), (w.heap.size + 1, 27, zR)] [] [] := ((unhide X1).call b2).sub (fun _ h => h) (fun _ h => h) (fun _ h => (nomatch h))
       have cb0 : w2.cell? ⟨w.heap.size + 1, 0, none⟩ = some (.int .u64 0) := (X2.get 1 rfl).cell 0
       have cb1 : w2.cell? ⟨w.heap.size + 1, 1, none⟩ = some (.int .i64 0) := (X2.get 1 rfl).cell 1
       have cb2 : w2.cell? ⟨w.heap.size + 1, 2, none⟩ = some (.int .i64 0) := (X2.get 1 rfl).cell 2
       have cb3 : w2.cell? ⟨w.heap.size + 1, 3, none⟩ = some (.int .i64 0) := (X2.get 1 rfl).cell 3
       have cb4 : w2.cell? ⟨w.heap.size + 1, 4, none⟩ = some (.int .u32 0) := (X2.get 1 rfl).cell 4
       have cb5 : w2.cell? ⟨w.heap.size + 1, 5, none⟩ = some (.int .u64 0) := (X2.get 1 rfl).cell 5
       have fb0 : w2.frozen? ⟨w.heap.size + 1, 0, none⟩ = false := (X2.get 1 rfl).frozen 0
       have fb1 : w2.frozen? ⟨w.heap.size + 1, 1, none⟩ = false := (X2.get 1 rfl).frozen 1
       have fb2 : w2.frozen? ⟨w.heap.size + 1, 2, none⟩ = false := (X2.get 1 rfl).frozen 2
       have fb3 : w2.frozen? ⟨w.heap.size + 1, 3, none⟩ = false := (X2.get 1 rfl).frozen 3
       have fb4 : w2.frozen? ⟨w.heap.size + 1, 4, none⟩ = false := (X2.get 1 rfl).frozen 4
       have fb5 : w2.frozen? ⟨w.heap.size + 1, 5, none⟩ = false := (X2.get 1 rfl).frozen 5
       have m2 : w.heap.size + 1 < w2.heap.size := (X2.get 1 rfl).lt
       have X3 := hide (X2.newB w2.heap.size rfl 27 #[.int .u64 (q.gen : Nat), .int .i64 q.at_, .int .i64 q.len, .int .i64 q.long, .int .u32 (q.sum : Nat), .int .u64 (q.next : Nat)])
       replace X2 := hide X2
       clear b2)
    | (go_at_call 36; refine (unhide hU _ _).mono ?_; rintro e w4 ⟨rfl, b4⟩
       have X4 := (unhide X3).call b4
       have p0 : w4.cell? ⟨w.heap.size + 1, 0, none⟩ = some (.int .u64 0) := (X4.get 1 rfl).cell 0
       have p1 : w4.cell? ⟨w.heap.size + 1, 1, none⟩ = some (.int .i64 0) := (X4.get 1 rfl).cell 1
       have p2 : w4.cell? ⟨w.heap.size + 1, 2, none⟩ = some (.int .i64 0) := (X4.get 1 rfl).cell 2
       have p3 : w4.cell? ⟨w.heap.size + 1, 3, none⟩ = some (.int .i64 0) := (X4.get 1 rfl).cell 3
       have p4 : w4.cell? ⟨w.heap.size + 1, 4, none⟩ = some (.int .u32 0) := (X4.get 1 rfl).cell 4
       have p5 : w4.cell? ⟨w.heap.size + 1, 5, none⟩ = some (.int .u64 0) := (X4.get 1 rfl).cell 5
       have r0 : w4.frozen? ⟨w.heap.size + 1, 0, none⟩ = false := (X4.get 1 rfl).frozen 0
       have r1 : w4.frozen? ⟨w.heap.size + 1, 1, none⟩ = false := (X4.get 1 rfl).frozen 1
       have r2 : w4.frozen? ⟨w.heap.size + 1, 2, none⟩ = false := (X4.get 1 rfl).frozen 2
       have r3 : w4.frozen? ⟨w.heap.size + 1, 3, none⟩ = false := (X4.get 1 rfl).frozen 3
       have r4 : w4.frozen? ⟨w.heap.size + 1, 4, none⟩ = false := (X4.get 1 rfl).frozen 4
       have r5 : w4.frozen? ⟨w.heap.size + 1, 5, none⟩ = false := (X4.get 1 rfl).frozen 5
       have s0 : w4.cell? ⟨w2.heap.size, 0, none⟩ = some (.int .u64 (q.gen : Nat)) := (X4.get 2 rfl).cell 0
       have s1 : w4.cell? ⟨w2.heap.size, 1, none⟩ = some (.int .i64 q.at_) := (X4.get 2 rfl).cell 1
       have s2 : w4.cell? ⟨w2.heap.size, 2, none⟩ = some (.int .i64 q.len) := (X4.get 2 rfl).cell 2
       have s3 : w4.cell? ⟨w2.heap.size, 3, none⟩ = some (.int .i64 q.long) := (X4.get 2 rfl).cell 3
       have s4 : w4.cell? ⟨w2.heap.size, 4, none⟩ = some (.int .u32 (q.sum : Nat)) := (X4.get 2 rfl).cell 4
       have s5 : w4.cell? ⟨w2.heap.size, 5, none⟩ = some (.int .u64 (q.next : Nat)) := (X4.get 2 rfl).cell 5
       have m4 : w.heap.size + 1 < w4.heap.size := (X4.get 1 rfl).lt
       replace X4 := hide X4
       clear b4)
    | fail)
  exact ret_r1 rfl (w.heap.size + 1) _ rfl rfl (Blk.set6 ((unhide X4).get 1 rfl) _ _ _ _ _ _) rfl ⟨rfl, bl_set6 (unhide X4).bl (by omega) _ _ _ _ _ _⟩
theorem rootAt_any (lo : Nat) (v : Value) (d : Dk) (i : Nat) (w : World) (ht : Tab w) (h : Dsk lo w.heap.size w v d) (hL : d.dry.length ≤ 1000000) (hW : d.wet.length ≤ 1000) :
    Calls Tryd.prog 41 #[v, .int .i64 (i : Nat)] w fun e w' => e = .returned (.agg #[.int .u64 ((atR d i).gen : Nat), .int .i64 (atR d i).at_, .int .i64 (atR d i).len, .int .i64 (atR d i).long, .int .u32 ((atR d i).sum : Nat), .int .u64 ((atR d i).next : Nat)]) ∧ Below w.heap.size w w' := by
  obtain ⟨b, E, hb⟩ : ∃ b E, rdD d i = (b, E) := ⟨_, _, rfl⟩
  have ha : atR d i = if E = 0 ∧ ofB b = true ∧ (ofR b).gen % 2 = i then ofR b else noRt := by unfold atR; rw [hb]
  by_cases hE : E = 0
  · cases hf : ofB b with
    | false => rw [ha, if_neg (by rw [hf]; simp)]; exact rootAt_form lo v d i w ht h hL hW b E hb hE hf
    | true =>
      by_cases hi : (ofR b).gen % 2 = i
      · rw [ha, if_pos ⟨hE, hf, hi⟩]; exact rootAt_good lo v d i w ht h hL hW b E hb hE hf hi
      · rw [ha, if_neg (fun hh => hi hh.2.2)]; exact rootAt_turn lo v d i w ht h hL hW b E hb hE hf hi
  · rw [ha, if_neg (fun hh => hE hh.1)]; exact rootAt_read lo v d i w ht h hL hW b E hb hE
end Go.Proofs.YtommlgdolahfbaaDoor
