import Derived.Test.YthkccpemgmpadaaGreatDoorU23
import Derived.Test.YthkccpemgmpadaaGreatDoorU22
namespace Go.Proofs.YthkccpemgmpadaaGreatDoor.P
set_option maxRecDepth 100000
open Go.RowKit
set_option maxHeartbeats 4000000 in
theorem refUnpack_main (lo : Nat) (b off c : Nat) (t : List Int) (most N : Int) (w : World) (hv : Os lo w.heap.size w (.slice (some ⟨b, off, none⟩) t.length c) t) (ht : okB t) (hl : t.length ≤ 1000000) (h0 : ¬ most < 0) (e2 : longR t = (N, 0)) (h9 : 9 ≤ t.length) (hN0 : 0 ≤ N) (hN1 : N ≤ 65536) (h3 : ¬ most < N) (hst : startE 528 (t.drop 4) = 0)
    (hU : unpackR t most = tailR (t.drop 4) N most) :
    Calls Tryz.prog 27 #[.slice (some ⟨b, off, none⟩) t.length c, .int .i64 most] w (UnpackOut t most w) := by
  obtain ⟨i0, hi0, iz0, iz1, iz2⟩ := info_parts M.info25
  have hcap : t.length ≤ c := by obtain ⟨_, _, e, h1, _⟩ := id hv; injection e with _ _ e3; omega
  have hL := refLong_any lo _ t w hv ht
  rw [e2] at hL
  simp only [] at hL
  have hD := fun (W : World) (hb : Below w.heap.size w W) => os_drop (hv.grow hb) 4 (by omega)
  have htd : okB (t.drop 4) := fun x hx => ht x (List.mem_of_mem_drop hx)
  have hdl : (t.drop 4).length ≤ 1000000 := by rw [List.length_drop]; omega
  have hdd : (t.drop 4).length = t.length - 4 := by rw [List.length_drop]
  have hsl := fun W => slice_l23 (some ⟨b, off, none⟩) t.length c 4 (by omega) W
  unfold sliced at hsl
  rw [if_neg (by omega)] at hsl
  have hS := fun (W : World) (hb : Below w.heap.size w W) => refStart_ok 528 (by omega) lo _ (t.drop 4) W (hD W hb) htd hst
  simp only [show ((528 : Nat) : Int) = 528 from rfl] at hS
  have hok := okR_start (n := 528) (by omega) hst htd
  have hus : (startR 528 (t.drop 4)).used ≤ (t.drop 4).length := (startE_iff.1 hst).2.1
  have hTs := fun (r : Rdr) (A : Option Addr) (cA : Nat) (W : World) (k : W.ownsRow w.heap.size 3 1 (.slice A r.c.length cA) r.c.length (r.c.flatMap ivc)) (hb : Below w.heap.size w W) (ho : OkR r) (hu : r.used ≤ (t.drop 4).length) (x : Tok) (r' : Rdr) (hx : tokR (t.drop 4) r = some (x, r')) =>
    refTok_some w.heap.size lo (.agg (rgc A cA r)) _ r (t.drop 4) W hb.size ⟨⟨A, cA, rfl, k⟩, ho, hu⟩ (hD W hb) htd hdl x r' hx
  have hTn := fun (r : Rdr) (A : Option Addr) (cA : Nat) (W : World) (k : W.ownsRow w.heap.size 3 1 (.slice A r.c.length cA) r.c.length (r.c.flatMap ivc)) (hb : Below w.heap.size w W) (ho : OkR r) (hu : r.used ≤ (t.drop 4).length) (hx : tokR (t.drop 4) r = none) =>
    refTok_none w.heap.size lo (.agg (rgc A cA r)) _ r (t.drop 4) W hb.size ⟨⟨A, cA, rfl, k⟩, ho, hu⟩ (hD W hb) htd hdl hx
  unfold rgc at hTs hTn
  have hEnd := fun (l : List Tok) (r : Rdr) (h : toksR (t.drop 4) N N.toNat 0 (startR 528 (t.drop 4)) [] = some (l, r)) => hU.trans (tailR_some h3 hst h)
  have hNone := fun (h : toksR (t.drop 4) N N.toNat 0 (startR 528 (t.drop 4)) [] = none) => hU.trans (tailR_none h3 hst h)
  have hTx := fun (l : List Tok) (v : Value) (W : World) (lo : Nat) (k : M.Tks lo W.heap.size W v l) (bs : List UInt8) (er : Int) (hr : M.textR l N = (bs, er)) => M.rText_any lo v l N bs er W k hr
  have hT9 : (9 : Int) ≤ (t.length : Int) := by omega
  generalize startR 528 (t.drop 4) = r0 at *
  generalize t.drop 4 = d at *
  replace hL := hide hL; replace hD := hide hD; replace hS := hide hS; replace hok := hide hok; replace hus := hide hus; replace hTs := hide hTs; replace hTn := hide hTn; replace hEnd := hide hEnd; replace hNone := hide hNone; replace hTx := hide hTx; replace hdd := hide hdd
  have hc4 : ¬ c = 4 := by omega
  have hcI : (t.length : Int) ≤ (c : Int) := by omega
  have hlI : (t.length : Int) ≤ 1000000 := by omega
  have h4I : (4 : Int) ≤ (t.length : Int) := by omega
  replace hsl : ∀ W : World, (Instr.slice 29 (.slice (some ⟨b, off, none⟩) t.length c) (some (.int .i64 4)) none none).run Tryz.prog W = .ok (.slice (some ⟨b, off + 4, none⟩) (t.length - 4) (c - 4)) W := hsl
  clear hv ht hl htd hdl hU hst e2 h9 hcap
  go_enter Tryz.func27, Tryz.ntmps27
  go_wp2_with (first
    | (go_at_call 50; refine (unhide hL).mono ?_; rintro e w1 ⟨rfl, hb1⟩; replace hb1 := hide hb1)
    | (go_at_call 51; refine (unhide hS _ (unhide hb1)).mono ?_; rintro e w2 ⟨v2, rfl, ⟨A2, c2, rfl, o2⟩, hb2⟩
       have x2 := hide (ownsRow_mono o2 (unhide hb1).size)
       replace hb2 := hide (bl_call (unhide hb1) hb2)
       clear o2 hb1)
    | fail)
  obtain ⟨g8, hg8⟩ : ∃ g8, g8 = w2.heap.size := ⟨_, rfl⟩
  have K8 := hide (Blk.new (w := w2) (g := g8) (t := 74) (cs := #[.slice A2 r0.c.length c2, .int .u32 r0.span, .int .u32 r0.code, .int .i64 r0.used]) hg8)
  have I8 := hide ((unhide x2).alloc (.cells #[.slice A2 r0.c.length c2, .int .u32 r0.span, .int .u32 r0.code, .int .i64 r0.used] 74))
  have B8 := hide (bl_alloc (unhide hb2) (.cells #[.slice A2 r0.c.length c2, .int .u32 r0.span, .int .u32 r0.code, .int .i64 r0.used] 74))
  have hgb : w.heap.size ≤ g8 := by rw [hg8]; exact (unhide hb2).size
  rw [← hg8]
  replace hgb := hide hgb
  clear hg8 x2 hb2
  go_loopw [9, 10] (fun s9 s10 wr => ∃ (f k c' cB : Nat) (told : Int) (r1 : Rdr) (acc : List Tok) (A' B : Option Addr), s9 = .slice A' k c' ∧ s10 = .int .i64 told ∧ 0 ≤ told ∧ told ≤ N + 18 ∧ N ≤ told + f ∧ (k : Int) ≤ told ∧ Hid (k = acc.length) ∧ Hid (toksR d N N.toNat 0 r0 [] = toksR d N f told r1 acc) ∧ Hid (Blk wr g8 74 #[.slice B r1.c.length cB, .int .u32 r1.span, .int .u32 r1.code, .int .i64 r1.used]) ∧ Hid (wr.ownsRow w.heap.size 3 1 (.slice B r1.c.length cB) r1.c.length (r1.c.flatMap ivc)) ∧ Hid (OkR r1) ∧ Hid (r1.used ≤ d.length) ∧ Hid (wr.ownsRow w.heap.size 79 3 (.slice A' k c') k (acc.flatMap M.tkv)) ∧ Hid (Below w.heap.size w wr)) (fun _ s10 _ => 65536 + 18 - (intOf s10).toNat)
  case atStart => exact ⟨N.toNat, 0, 0, c2, 0, r0, [], none, A2, rfl, rfl, by omega, by omega, by omega, by omega, hide rfl, hide rfl, K8, I8, hok, hus, hide (World.ownsRow_nil _ _ _ _), B8⟩
  case round =>
    obtain ⟨f, k, c', cB, told, r1, acc, A', B, rfl, rfl, ht0, ht1, hf, hk, hkl, hq, K, I, ho, hu, hT, hB⟩ := hrel
    have y8 := (unhide K).lt
    have q0 := (unhide K).cell 0; have q1 := (unhide K).cell 1; have q2 := (unhide K).cell 2; have q3 := (unhide K).cell 3
    simp at q0 q1 q2 q3
    by_cases hlt : told < N
    · obtain ⟨f', rfl⟩ : ∃ f', f = f' + 1 := ⟨f - 1, by omega⟩
      cases hx : tokR d r1 with
      | none =>
        have hA := fun (W : World) (k : W.ownsRow w.heap.size 3 1 (.slice B r1.c.length cB) r1.c.length (r1.c.flatMap ivc)) (hb : Below w.heap.size w W) => unhide hTn r1 B cB W k hb (unhide ho) (unhide hu) hx
        have hq2 := unhide hNone ((unhide hq).trans (toksR_none hlt hx))
        replace hA := hide hA; replace hq2 := hide hq2
        clear hq hx
        go_wp2_with fail
        go_cut [11, 12, 13] (fun s11 s12 s13 wx => s13 = .bool false ∧ Hid (Below w.heap.size w wx))
        case first =>
          go_region_held3 (fun W => W.cell? ⟨g8, 0, none⟩ = some (.slice B r1.c.length cB) ∧ W.cell? ⟨g8, 1, none⟩ = some (.int .u32 r1.span) ∧ W.cell? ⟨g8, 2, none⟩ = some (.int .u32 r1.code) ∧ W.cell? ⟨g8, 3, none⟩ = some (.int .i64 r1.used)) (first | exact ⟨by with_reducible assumption, by with_reducible assumption, by with_reducible assumption, by with_reducible assumption⟩ | exact ⟨by go_simp, by go_simp, by go_simp, by go_simp⟩)
            (first
              | (go_at_call 52; refine (unhide hA _ (by (repeat (first | with_reducible exact unhide I | with_reducible refine own_drew ?_ | with_reducible refine World.ownsRow.alloc ?_ _))) (by have q := unhide hB; (repeat (first | with_reducible exact Below.refl _ _ | with_reducible assumption | with_reducible refine Below.drew ?_ | with_reducible refine bl_alloc ?_ _ | with_reducible refine bl_call ?_ (by assumption) | (focus (with_reducible refine Below.setCell ?_ ?_ _; rotate_left; focus (first | omega | (simp <;> omega)))) | fail)))).mono ?_; rintro e w3 ⟨z0, z1, z2, B3, cB3, r3, rfl, hb3⟩
                 have K3 : Blk w3 g8 74 #[.slice B r1.c.length cB, .int .u32 r1.span, .int .u32 r1.code, .int .i64 r1.used] := Blk.below (by (repeat (first | with_reducible exact unhide K | with_reducible refine Blk.drew ?_ | with_reducible refine Blk.alloc ?_ _))) hb3 (by have := (unhide K).lt; simp; omega)
                 have d0 : w3.cell? ⟨g8, 0, none⟩ = some (.slice B r1.c.length cB) := K3.cell 0
                 have d1 : w3.cell? ⟨g8, 1, none⟩ = some (.int .u32 r1.span) := K3.cell 1
                 have d2 : w3.cell? ⟨g8, 2, none⟩ = some (.int .u32 r1.code) := K3.cell 2
                 have d3 : w3.cell? ⟨g8, 3, none⟩ = some (.int .i64 r1.used) := K3.cell 3
                 have l3 := K3.lt
                 have B3' : Below w.heap.size w w3 := bl_call (by have q := unhide hB; (repeat (first | with_reducible exact Below.refl _ _ | with_reducible assumption | with_reducible refine Below.drew ?_ | with_reducible refine bl_alloc ?_ _ | with_reducible refine bl_call ?_ (by assumption) | (focus (with_reducible refine Below.setCell ?_ ?_ _; rotate_left; focus (first | omega | (simp <;> omega)))) | fail))) hb3
                 have s3 : wr.heap.size ≤ w3.heap.size := by have := hb3.size; simp at this; omega
                 first
                   | (have K11 : Blk w3 wr.heap.size 79 #[.int .u8 0, .int .i64 0, .int .i64 0] := Blk.below (by exact ((Blk.new rfl).alloc _).drew) hb3 (by simp; omega)
                      have K12 : Blk w3 (wr.heap.size + 1) 74 #[.slice none 0 0, .int .u32 0, .int .u32 0, .int .i64 0] := Blk.below (by exact (Blk.new (by simp)).drew) hb3 (by simp)
                      have u0 := K11.cell 0; have u1 := K11.cell 1; have u2 := K11.cell 2; have v0 := K11.frozen 0; have v1 := K11.frozen 1; have v2 := K11.frozen 2; have v3 := K11.lt; simp at u0 u1 u2; replace K11 := hide K11; have j0 := K12.cell 0; have j1 := K12.cell 1; have j2 := K12.cell 2; have j3 := K12.cell 3; have i0 := K12.frozen 0; have i1 := K12.frozen 1; have i2 := K12.frozen 2; have i3 := K12.frozen 3; have i4 := K12.lt; simp at j0 j1 j2 j3; replace K12 := hide K12)
                   | (have K12 : Blk w3 wr.heap.size 74 #[.slice none 0 0, .int .u32 0, .int .u32 0, .int .i64 0] := Blk.below (by exact ((Blk.new rfl).alloc _).drew) hb3 (by simp; omega)
                      have K11 : Blk w3 (wr.heap.size + 1) 79 #[.int .u8 0, .int .i64 0, .int .i64 0] := Blk.below (by exact (Blk.new (by simp)).drew) hb3 (by simp)
                      have u0 := K11.cell 0; have u1 := K11.cell 1; have u2 := K11.cell 2; have v0 := K11.frozen 0; have v1 := K11.frozen 1; have v2 := K11.frozen 2; have v3 := K11.lt; simp at u0 u1 u2; replace K11 := hide K11; have j0 := K12.cell 0; have j1 := K12.cell 1; have j2 := K12.cell 2; have j3 := K12.cell 3; have i0 := K12.frozen 0; have i1 := K12.frozen 1; have i2 := K12.frozen 2; have i3 := K12.frozen 3; have i4 := K12.lt; simp at j0 j1 j2 j3; replace K12 := hide K12)
                   | (have K11 : Blk w3 wr.heap.size 79 #[.int .u8 0, .int .i64 0, .int .i64 0] := Blk.below (by exact (Blk.new rfl).drew) hb3 (by simp)
                      have u0 := K11.cell 0; have u1 := K11.cell 1; have u2 := K11.cell 2; have v0 := K11.frozen 0; have v1 := K11.frozen 1; have v2 := K11.frozen 2; have v3 := K11.lt; simp at u0 u1 u2; replace K11 := hide K11)
                   | (have K12 : Blk w3 wr.heap.size 74 #[.slice none 0 0, .int .u32 0, .int .u32 0, .int .i64 0] := Blk.below (by exact (Blk.new rfl).drew) hb3 (by simp)
                      have j0 := K12.cell 0; have j1 := K12.cell 1; have j2 := K12.cell 2; have j3 := K12.cell 3; have i0 := K12.frozen 0; have i1 := K12.frozen 1; have i2 := K12.frozen 2; have i3 := K12.frozen 3; have i4 := K12.lt; simp at j0 j1 j2 j3; replace K12 := hide K12)
                   | skip
                 replace K3 := hide K3
                 clear hb3))
          all_goals
            have wz := (unhide hB).size
            go_wp2_with fail
            go_meet
            exact ⟨rfl, hide (by (repeat (first | with_reducible exact Below.refl _ _ | with_reducible assumption | with_reducible refine Below.drew ?_ | with_reducible refine bl_alloc ?_ _ | with_reducible refine bl_call ?_ (by assumption) | (focus (with_reducible refine Below.setCell ?_ ?_ _; rotate_left; focus (first | omega | (simp <;> omega)))) | fail)))⟩
        case rest =>
          obtain ⟨rfl, B9⟩ := hcut
          go_wp2_with fail
          go_ret2
          exact UnpackOut.bad (unhide hq2) rfl (unhide B9)
      | some x =>
        obtain ⟨x, r2⟩ := x
        have hA := fun (W : World) (k : W.ownsRow w.heap.size 3 1 (.slice B r1.c.length cB) r1.c.length (r1.c.flatMap ivc)) (hb : Below w.heap.size w W) => unhide hTs r1 B cB W k hb (unhide ho) (unhide hu) x r2 hx
        have hq2 := (unhide hq).trans (toksR_step hlt hx)
        have hokx := tokR_ok hx
        have hsz := okT_size hokx
        have hmx := size_max hokx
        simp only [] at hokx hsz hmx
        have hto := M.tkv_one x
        have hfl := M.flat_snoc acc x
        have u1 : k + 1 ≤ maxLen := by simp only [maxLen]; omega
        have u2 : (k + 1) * 24 ≤ 140737488355328 := by omega
        have hkk : k + 1 = (acc ++ [x]).length := by rw [List.length_append, unhide hkl]; rfl
        obtain ⟨S, hS⟩ : ∃ S, S = sizeT x := ⟨_, rfl⟩
        rw [← hS] at hq2 hsz hmx
        obtain ⟨xl, xn, xd⟩ := x
        unfold tkV at hA
        simp only [] at hA hmx
        replace hA := hide hA; replace hq2 := hide hq2; replace hto := hide hto; replace hfl := hide hfl; replace u1 := hide u1; replace u2 := hide u2; replace hkk := hide hkk; replace hkl := hide hkl
        clear hq hx hS hokx
        go_wp2_with fail
        go_cut [11, 12, 13] (fun s11 s12 s13 wx => ∃ (g11 g12 c3 : Nat) (A3 : Option Addr), s11 = .pointer (some ⟨g11, 0, none⟩) ∧ s12 = .pointer (some ⟨g12, 0, none⟩) ∧ s13 = .bool true ∧ Hid (OkR r2 ∧ r2.used ≤ d.length) ∧ Hid (Out w wr wx g8 g11 g12 #[.slice B r1.c.length cB, .int .u32 r1.span, .int .u32 r1.code, .int .i64 r1.used] (.slice A3 r2.c.length c3) r2.c.length (r2.c.flatMap ivc) (.slice A' k c') k (acc.flatMap M.tkv) (.int .u8 (M.n8 xl)) (.int .i64 xn) (.int .i64 xd) (.slice A3 r2.c.length c3) (.int .u32 r2.span) (.int .u32 r2.code) (.int .i64 r2.used)))
        case first =>
          go_region_held3 (fun W => W.cell? ⟨g8, 0, none⟩ = some (.slice B r1.c.length cB) ∧ W.cell? ⟨g8, 1, none⟩ = some (.int .u32 r1.span) ∧ W.cell? ⟨g8, 2, none⟩ = some (.int .u32 r1.code) ∧ W.cell? ⟨g8, 3, none⟩ = some (.int .i64 r1.used)) (first | exact ⟨by with_reducible assumption, by with_reducible assumption, by with_reducible assumption, by with_reducible assumption⟩ | exact ⟨by go_simp, by go_simp, by go_simp, by go_simp⟩)
            (first
              | (go_at_call 52; refine (unhide hA _ (by (repeat (first | with_reducible exact unhide I | with_reducible refine own_drew ?_ | with_reducible refine World.ownsRow.alloc ?_ _))) (by have q := unhide hB; (repeat (first | with_reducible exact Below.refl _ _ | with_reducible assumption | with_reducible refine Below.drew ?_ | with_reducible refine bl_alloc ?_ _ | with_reducible refine bl_call ?_ (by assumption) | (focus (with_reducible refine Below.setCell ?_ ?_ _; rotate_left; focus (first | omega | (simp <;> omega)))) | fail)))).mono ?_; rintro e w3 ⟨v2, rfl, ⟨⟨A3, c3, rfl, o3⟩, ok3, us3⟩, hb3⟩
                 have K3 : Blk w3 g8 74 #[.slice B r1.c.length cB, .int .u32 r1.span, .int .u32 r1.code, .int .i64 r1.used] := Blk.below (by (repeat (first | with_reducible exact unhide K | with_reducible refine Blk.drew ?_ | with_reducible refine Blk.alloc ?_ _))) hb3 (by have := (unhide K).lt; simp; omega)
                 have d0 : w3.cell? ⟨g8, 0, none⟩ = some (.slice B r1.c.length cB) := K3.cell 0
                 have d1 : w3.cell? ⟨g8, 1, none⟩ = some (.int .u32 r1.span) := K3.cell 1
                 have d2 : w3.cell? ⟨g8, 2, none⟩ = some (.int .u32 r1.code) := K3.cell 2
                 have d3 : w3.cell? ⟨g8, 3, none⟩ = some (.int .i64 r1.used) := K3.cell 3
                 have l3 := K3.lt
                 have B3' : Below w.heap.size w w3 := bl_call (by have q := unhide hB; (repeat (first | with_reducible exact Below.refl _ _ | with_reducible assumption | with_reducible refine Below.drew ?_ | with_reducible refine bl_alloc ?_ _ | with_reducible refine bl_call ?_ (by assumption) | (focus (with_reducible refine Below.setCell ?_ ?_ _; rotate_left; focus (first | omega | (simp <;> omega)))) | fail))) hb3
                 have s3 : wr.heap.size ≤ w3.heap.size := by have := hb3.size; simp at this; omega
                 first
                   | (have K11 : Blk w3 wr.heap.size 79 #[.int .u8 0, .int .i64 0, .int .i64 0] := Blk.below (by exact ((Blk.new rfl).alloc _).drew) hb3 (by simp; omega)
                      have K12 : Blk w3 (wr.heap.size + 1) 74 #[.slice none 0 0, .int .u32 0, .int .u32 0, .int .i64 0] := Blk.below (by exact (Blk.new (by simp)).drew) hb3 (by simp)
                      have u0 := K11.cell 0; have u1 := K11.cell 1; have u2 := K11.cell 2; have v0 := K11.frozen 0; have v1 := K11.frozen 1; have v2 := K11.frozen 2; have v3 := K11.lt; simp at u0 u1 u2; replace K11 := hide K11; have j0 := K12.cell 0; have j1 := K12.cell 1; have j2 := K12.cell 2; have j3 := K12.cell 3; have i0 := K12.frozen 0; have i1 := K12.frozen 1; have i2 := K12.frozen 2; have i3 := K12.frozen 3; have i4 := K12.lt; simp at j0 j1 j2 j3; replace K12 := hide K12)
                   | (have K12 : Blk w3 wr.heap.size 74 #[.slice none 0 0, .int .u32 0, .int .u32 0, .int .i64 0] := Blk.below (by exact ((Blk.new rfl).alloc _).drew) hb3 (by simp; omega)
                      have K11 : Blk w3 (wr.heap.size + 1) 79 #[.int .u8 0, .int .i64 0, .int .i64 0] := Blk.below (by exact (Blk.new (by simp)).drew) hb3 (by simp)
                      have u0 := K11.cell 0; have u1 := K11.cell 1; have u2 := K11.cell 2; have v0 := K11.frozen 0; have v1 := K11.frozen 1; have v2 := K11.frozen 2; have v3 := K11.lt; simp at u0 u1 u2; replace K11 := hide K11; have j0 := K12.cell 0; have j1 := K12.cell 1; have j2 := K12.cell 2; have j3 := K12.cell 3; have i0 := K12.frozen 0; have i1 := K12.frozen 1; have i2 := K12.frozen 2; have i3 := K12.frozen 3; have i4 := K12.lt; simp at j0 j1 j2 j3; replace K12 := hide K12)
                   | (have K11 : Blk w3 wr.heap.size 79 #[.int .u8 0, .int .i64 0, .int .i64 0] := Blk.below (by exact (Blk.new rfl).drew) hb3 (by simp)
                      have u0 := K11.cell 0; have u1 := K11.cell 1; have u2 := K11.cell 2; have v0 := K11.frozen 0; have v1 := K11.frozen 1; have v2 := K11.frozen 2; have v3 := K11.lt; simp at u0 u1 u2; replace K11 := hide K11)
                   | (have K12 : Blk w3 wr.heap.size 74 #[.slice none 0 0, .int .u32 0, .int .u32 0, .int .i64 0] := Blk.below (by exact (Blk.new rfl).drew) hb3 (by simp)
                      have j0 := K12.cell 0; have j1 := K12.cell 1; have j2 := K12.cell 2; have j3 := K12.cell 3; have i0 := K12.frozen 0; have i1 := K12.frozen 1; have i2 := K12.frozen 2; have i3 := K12.frozen 3; have i4 := K12.lt; simp at j0 j1 j2 j3; replace K12 := hide K12)
                   | skip
                 have T3 : w3.ownsRow w.heap.size 79 3 (.slice A' k c') k (acc.flatMap M.tkv) := own_below (by (repeat (first | with_reducible exact unhide hT | with_reducible refine own_drew ?_ | with_reducible refine World.ownsRow.alloc ?_ _))) hb3 (Nat.le_refl _)
                 have PR := hide (Pre.mk K3 y8 s3 B3' (unhide hB).size o3 T3 (own_vbelow (unhide hT)))
                 have OK3 := hide (And.intro ok3 us3)
                 clear hb3 K3 o3 T3 B3' s3 ok3 us3))
          all_goals
            go_wp2_with fail
            go_meet
            first
              | with_reducible exact ⟨_, _, c3, A3, rfl, rfl, rfl, OK3, hide (out1 (unhide PR) _ _ _ _ _ _ _)⟩
              | with_reducible exact ⟨_, _, c3, A3, rfl, rfl, rfl, OK3, hide (out2 (unhide PR) _ _ _ _ _ _ _)⟩
              | with_reducible exact ⟨_, _, c3, A3, rfl, rfl, rfl, OK3, hide (out3 (unhide PR) _ _ _ _ _ _ _ (unhide K11))⟩
              | with_reducible exact ⟨_, _, c3, A3, rfl, rfl, rfl, OK3, hide (out4 (unhide PR) _ _ _ _ _ _ _ (unhide K11) (unhide K12))⟩
              | with_reducible exact ⟨_, _, c3, A3, rfl, rfl, rfl, OK3, hide (out5 (unhide PR) _ _ _ _ _ _ _ (unhide K12))⟩
              | with_reducible exact ⟨_, _, c3, A3, rfl, rfl, rfl, OK3, hide (out6 (unhide PR) _ _ _ _ _ _ _ (unhide K11) (unhide K12))⟩
        case rest =>
          obtain ⟨g11, g12, c3, A3, rfl, rfl, rfl, OK3, OU⟩ := hcut
          have y0 := (unhide OU).k8.lt
          have p0 := (unhide OU).k8.cell 0; have p1 := (unhide OU).k8.cell 1; have p2 := (unhide OU).k8.cell 2; have p3 := (unhide OU).k8.cell 3
          have f0 := (unhide OU).k8.frozen 0; have f1 := (unhide OU).k8.frozen 1; have f2 := (unhide OU).k8.frozen 2; have f3 := (unhide OU).k8.frozen 3
          have y12 := (unhide OU).k12.lt
          have e0 := (unhide OU).k12.cell 0; have e1 := (unhide OU).k12.cell 1; have e2 := (unhide OU).k12.cell 2; have e3 := (unhide OU).k12.cell 3
          have y11 := (unhide OU).k11.lt
          have s0 := (unhide OU).k11.cell 0; have s1 := (unhide OU).k11.cell 1; have s2 := (unhide OU).k11.cell 2
          simp at p0 p1 p2 p3 e0 e1 e2 e3 s0 s1 s2
          have n11 := (unhide OU).n11
          have n11' := n11.symm
          have L8 := hide ((unhide OU).k8.set4 (x := .slice A3 r2.c.length c3) (y := .int .u32 r2.span) (z := .int .u32 r2.code) (u := .int .i64 r2.used))
          have L11 := hide (set4_blk (x := .slice A3 r2.c.length c3) (y := .int .u32 r2.span) (z := .int .u32 r2.code) (u := .int .i64 r2.used) (unhide OU).k11 n11)
          have I8' := hide (set4_ownN (x := .slice A3 r2.c.length c3) (y := .int .u32 r2.span) (z := .int .u32 r2.code) (u := .int .i64 r2.used) (unhide OU).o3 (unhide OU).k8 (by decide))
          have T8 := hide (set4_ownN (x := .slice A3 r2.c.length c3) (y := .int .u32 r2.span) (z := .int .u32 r2.code) (u := .int .i64 r2.used) (unhide OU).o4 (unhide OU).k8 (by decide))
          have B8' := hide (set4_below (x := .slice A3 r2.c.length c3) (y := .int .u32 r2.span) (z := .int .u32 r2.code) (u := .int .i64 r2.used) (unhide OU).below (unhide hgb))
          have hbz := (unhide OU).below.size
          have vb := hide (own_vbelow (unhide hT))
          have p11 := hide (unhide OU).p11
          replace hbz := hide hbz
          clear q0 q1 q2 q3 y8 OU hA K I ho hu hB
          go_wp2_with (first
            | (at_builtin
               refine wpList_app _ rfl (.tmp 50) (.tmp 52) 77 rfl w.heap.size 79 i0 _ 3 24 Tryz.underlying77 hi0 iz0 iz1 iz2 rfl (Nat.succ_pos _) _ k (acc.flatMap M.tkv) rfl ((unhide T8).alloc _) (some ⟨wc.heap.size, 0, none⟩) 1 1 (M.tkv ⟨xl, xn, xd⟩) rfl rfl (M.tk_src (t := ⟨xl, xn, xd⟩) (Blk.new (by simp [World.setCell]))) (unhide hto) (unhide u1) (unhide u2) (by have := unhide hbz; simp [World.setCell]; omega) ?_
               intro v5 w5 o5 hg5
               obtain ⟨A5, c5, rfl⟩ := ownsRow_form o5
               rw [unhide hfl] at o5
               have N11 : Blk w5 g11 79 #[.int .u8 (M.n8 xl), .int .i64 xn, .int .i64 xd] := Blk.grown ((unhide L11).alloc _) hg5 (M.vb_ne (unhide vb) (unhide p11))
               have N8 : Blk w5 g8 74 #[.slice A3 r2.c.length c3, .int .u32 r2.span, .int .u32 r2.code, .int .i64 r2.used] := ((Kept.refl 79 _).grown ((unhide T8).alloc _) hg5) _ 74 _ (by decide) ((unhide L8).alloc _)
               have N3 : w5.ownsRow w.heap.size 3 1 (.slice A3 r2.c.length c3) r2.c.length (r2.c.flatMap ivc) := Kept.own ((Kept.refl 79 _).grown ((unhide T8).alloc _) hg5) ((unhide I8').alloc _) (by decide)
               have B5 : Below w.heap.size w w5 := bl_grown (bl_alloc (unhide B8') _) hg5 (own_base (unhide T8))
               have z1 := N11.cell 1
               have zl := N11.lt
               simp at z1
               replace N8 := hide N8; replace N3 := hide N3; replace B5 := hide B5; replace o5 := hide o5
               clear N11)
            | fail)
          go_roundw
          case rel => exact ⟨f', k + 1, c5, c3, told + S, r2, acc ++ [⟨xl, xn, xd⟩], A5, A3, rfl, by go_num, by omega, by omega, by omega, by omega, hkk, hq2, N8, N3, hide (unhide OK3).1, hide (unhide OK3).2, o5, B5⟩
          case measure => simp [intOf]; omega
    · have hq2 := unhide hEnd acc r1 ((unhide hq).trans (toksR_end hlt))
      obtain ⟨er, e1, e2⟩ := textR_is (l := acc) hN0 hN1
      have hA := fun (v : Value) (W : World) (lo : Nat) (k : M.Tks lo W.heap.size W v acc) => unhide hTx acc v W lo k _ er e1
      have hk2 := unhide hkl
      subst hk2
      have hTT := hide (M.Tks.own (unhide hT))
      have hd4 : (d.length : Int) = (t.length : Int) - 4 := by have := unhide hdd; omega
      replace hA := hide hA
      clear e1 hq hkl hT hk
      by_cases her : er = 0
      · rw [e2.1 her] at hq2 hA
        subst her
        simp only [if_true] at hA
        by_cases hud : r1.used = d.length
        · have hd1 : decide (r1.used = d.length) = true := decide_eq_true hud
          rw [hd1] at hq2
          simp only [Bool.and_self, if_true] at hq2
          have hud' : ((r1.used : Int) != (t.length : Int) - 4) = false := by rw [bne_eq_false_iff_eq]; omega
          replace hq2 := hide hq2
          clear hd1 hud e2 hd4
          go_wp2_with (first
            | (go_at_call 53; refine (unhide hA _ _ _ (unhide hTT)).mono ?_; rintro e w3 ⟨A3, n3, c3, rfl, o3, hb3⟩
               have K3 : Blk w3 g8 74 #[.slice B r1.c.length cB, .int .u32 r1.span, .int .u32 r1.code, .int .i64 r1.used] := (unhide K).below hb3 (unhide K).lt
               have y3 := K3.lt
               have z3 := K3.cell 3
               simp at z3
               clear K3)
            | fail)
          go_ret2
          unfold UnpackOut
          rw [unhide hq2]
          exact ⟨_, _, _, rfl, ownsRow_mono o3 (unhide hB).size, bl_call (unhide hB) hb3⟩
        · have hd1 : decide (r1.used = d.length) = false := decide_eq_false hud
          rw [hd1] at hq2
          simp only [Bool.and_false, Bool.false_eq_true, if_false] at hq2
          have hud' : ((r1.used : Int) != (t.length : Int) - 4) = true := by rw [bne_iff_ne]; omega
          replace hq2 := hide hq2
          clear hd1 hud e2 hd4
          go_wp2_with (first
            | (go_at_call 53; refine (unhide hA _ _ _ (unhide hTT)).mono ?_; rintro e w3 ⟨A3, n3, c3, rfl, o3, hb3⟩
               have K3 : Blk w3 g8 74 #[.slice B r1.c.length cB, .int .u32 r1.span, .int .u32 r1.code, .int .i64 r1.used] := (unhide K).below hb3 (unhide K).lt
               have y3 := K3.lt
               have z3 := K3.cell 3
               simp at z3
               clear K3)
            | fail)
          go_ret2
          exact UnpackOut.bad (unhide hq2) rfl (bl_call (unhide hB) hb3)
      · have hc : (okL 0 acc && decide (sumT acc ≤ N)) = false := by
          cases hh : okL 0 acc && decide (sumT acc ≤ N) with
          | false => rfl
          | true => exact absurd (e2.2 hh) her
        rw [hc] at hq2 hA
        simp only [Bool.false_and, Bool.false_eq_true, if_false] at hq2 hA
        have her' : (er == 0) = false := by simpa using her
        replace hq2 := hide hq2
        clear e2 hd4 hc
        go_wp2_with (first
          | (go_at_call 53; refine (unhide hA _ _ _ (unhide hTT)).mono ?_; rintro e w3 ⟨A3, n3, c3, rfl, o3, hb3⟩
             have K3 : Blk w3 g8 74 #[.slice B r1.c.length cB, .int .u32 r1.span, .int .u32 r1.code, .int .i64 r1.used] := (unhide K).below hb3 (unhide K).lt
             have y3 := K3.lt
             have z3 := K3.cell 3
             simp at z3
             clear K3)
          | fail)
        go_ret2
        exact UnpackOut.bad (unhide hq2) rfl (bl_call (unhide hB) hb3)
end Go.Proofs.YthkccpemgmpadaaGreatDoor.P

namespace Go.Proofs.YthkccpemgmpadaaGreatDoor.P
set_option maxRecDepth 100000
open Go.RowKit
set_option maxHeartbeats 2000000 in
theorem refUnpack_any (lo : Nat) (v : Value) (t : List Int) (most : Int) (w : World) (hv : Os lo w.heap.size w v t) (ht : okB t) (hl : t.length ≤ 1000000) :
    Calls Tryz.prog 27 #[v, .int .i64 most] w (UnpackOut t most w) := by
  have hL := fun (W : World) (h : Os lo W.heap.size W v t) => refLong_any lo v t W h ht
  by_cases h0 : most < 0
  · have hr : unpackR t most = ([], 1) := by unfold unpackR; rw [if_pos h0]
    replace hr := hide hr
    clear hL hv
    go_enter Tryz.func27, Tryz.ntmps27
    go_wp2_with fail
    go_ret2
    exact UnpackOut.bad (unhide hr) rfl (Below.refl _ _)
  by_cases h9 : (longR t).2 = 0
  · have hlen : ¬ (t.length < 9 ∨ 65536 < longN t) := fun h => by
      unfold longR at h9; rw [if_pos h] at h9; exact absurd h9 (by simp)
    have hL9 : 9 ≤ t.length := by omega
    have hN1 : longN t ≤ 65536 := by omega
    have hN0 : 0 ≤ longN t := by
      rw [longN_get (by omega)]
      have a0 := ht t[0] (List.getElem_mem _); have a1 := ht t[1] (List.getElem_mem _); have a2 := ht t[2] (List.getElem_mem _); have a3 := ht t[3] (List.getElem_mem _)
      omega
    have e2 : longR t = (longN t, 0) := by unfold longR; rw [if_neg hlen]
    have hU := unpackR_tail h0 h9
    have hv2 := hv
    obtain ⟨A, c, rfl, x1, x2, x3⟩ := hv.open
    obtain ⟨b, off, rfl, xx⟩ := x3 0 (by omega)
    clear xx x3
    by_cases h3 : most < longN t
    · rw [tailR_long h3] at hU
      rw [e2] at hL
      simp only [] at hL
      generalize longN t = N at *
      clear e2 hlen h9 hL9
      replace hL := hide hL; replace hU := hide hU; replace hv2 := hide hv2
      clear hv hN0 hN1
      go_enter Tryz.func27, Tryz.ntmps27
      go_wp2_with (first
        | (go_at_call 50; refine (unhide hL _ (unhide hv2)).mono ?_; rintro e w1 ⟨rfl, hb1⟩)
        | fail)
      go_ret2
      exact UnpackOut.bad (unhide hU) rfl hb1
    by_cases hst : startE 528 (t.drop 4) = 0
    · exact refUnpack_main lo b off c t most (longN t) w hv ht hl h0 e2 hL9 hN0 hN1 h3 hst hU
    · rw [tailR_start h3 hst] at hU
      have hD := fun (W : World) (h : Os lo W.heap.size W (.slice (some ⟨b, off, none⟩) t.length c) t) => os_drop h 4 (by omega)
      have hsl := fun W => slice_l23 (some ⟨b, off, none⟩) t.length c 4 (by omega) W
      unfold sliced at hsl
      rw [if_neg (by omega)] at hsl
      have htd : okB (t.drop 4) := fun x hx => ht x (List.mem_of_mem_drop hx)
      have hB := fun (W : World) (h : Os lo W.heap.size W (.slice (some ⟨b, off + 4, none⟩) (t.length - 4) (c - 4)) (t.drop 4)) => refStart_bad 528 lo _ (t.drop 4) W h htd hst
      have hst' : (startE 528 (t.drop 4) == 0) = false := by simpa using hst
      rw [e2] at hL
      simp only [] at hL
      have hc4 : ¬ c = 4 := by omega
      have hT9 : (9 : Int) ≤ (t.length : Int) := by omega
      have hcI : (t.length : Int) ≤ (c : Int) := by omega
      clear e2 hlen h9 hst htd
      generalize startE 528 (t.drop 4) = er at *
      generalize t.drop 4 = d at *
      generalize longN t = N at *
      replace hL := hide hL; replace hU := hide hU; replace hv2 := hide hv2; replace hD := hide hD; replace hB := hide hB
      clear hv ht hL9 hN0 hN1 hl
      go_enter Tryz.func27, Tryz.ntmps27
      go_wp2_with (first
        | (go_at_call 50; refine (unhide hL _ (unhide hv2)).mono ?_; rintro e w1 ⟨rfl, hb1⟩; have v1 := hide (unhide hD _ ((unhide hv2).grow hb1)); replace hb1 := hide hb1)
        | (go_at_call 51; refine (unhide hB _ (unhide v1)).mono ?_; rintro e w2 ⟨rfl, hb2⟩)
        | fail)
      go_ret2
      exact UnpackOut.bad (unhide hU) rfl (bl_alloc (bl_call (unhide hb1) hb2) _)
  · have hr : unpackR t most = ([], 2) := by unfold unpackR; rw [if_neg h0, if_pos h9]
    have e2 : longR t = (0, 2) := by
      unfold longR at h9 ⊢
      split
      · rfl
      · rename_i h; rw [if_neg h] at h9; exact absurd rfl h9
    rw [e2] at hL
    replace hL := hide hL; replace hr := hide hr; replace hv := hide hv
    clear h9 e2
    go_enter Tryz.func27, Tryz.ntmps27
    go_wp2_with (first
      | (go_at_call 50; refine (unhide hL _ (unhide hv)).mono ?_; rintro e w1 ⟨rfl, hb1⟩)
      | fail)
    go_ret2
    exact UnpackOut.bad (unhide hr) rfl hb1
end Go.Proofs.YthkccpemgmpadaaGreatDoor.P
