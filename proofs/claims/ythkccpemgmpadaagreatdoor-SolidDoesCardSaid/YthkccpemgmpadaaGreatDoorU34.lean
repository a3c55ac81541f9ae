import Derived.Test.YthkccpemgmpadaaGreatDoorU21
import Derived.Test.YthkccpemgmpadaaGreatDoorU20
import Derived.Test.YthkccpemgmpadaaGreatDoorU2
import Derived.Test.YthkccpemgmpadaaGreatDoorU32
import Derived.LoopN
namespace Go.Proofs.YthkccpemgmpadaaGreatDoor
set_option maxRecDepth 100000
open Go.RowKit
def pkU (b : List UInt8) : List UInt8 := (P.packT b).map fun z => UInt8.ofNat z.toNat
theorem le4_okB (n : Int) : P.okB (P.le4 n) := by
  intro x hx
  simp [P.le4] at hx
  omega
theorem packT_okB {b : List UInt8} (hb : b.length ≤ 65536) : P.okB (P.packT b) := P.okB_app (le4_okB _) (P.encT_okB (P.toksB_bits hb))
theorem octs_pkU {b : List UInt8} (hb : b.length ≤ 65536) : P.octs (pkU b) = P.packT b := by
  have h := packT_okB hb
  unfold pkU P.octs
  rw [List.map_map]
  conv => rhs; rw [← List.map_id (P.packT b)]
  refine List.map_congr_left fun z hz => ?_
  have hz' := h z hz
  show ((UInt8.ofNat z.toNat).toNat : Int) = z
  rw [UInt8.toNat_ofNat']
  have : z.toNat < 256 := by omega
  rw [Nat.mod_eq_of_lt (by simpa using this)]
  omega
theorem pkU_len (b : List UInt8) : (pkU b).length = (P.packT b).length := by simp [pkU]
theorem pkU_le {b : List UInt8} (hb : b.length ≤ 65536) : (pkU b).length ≤ 16 + 9 * b.length := by rw [pkU_len]; exact P.E.pack_len hb
def unpU (t : List UInt8) : List UInt8 × Int := P.unpackR (P.octs t) 65536
def boxS (s : St) (n : Nx) (b : List UInt8) : Bx := ⟨n, hidF s n (pkU b), tagF s n (hidF s n (pkU b))⟩
def sealS (s : St) (n : Nx) (b : List UInt8) : List UInt8 := C.sealL (bytesF (boxS s n b))
def innerS (s : St) (t : List UInt8) : List UInt8 × Int :=
  if t.length < 24 then ([], 2)
  else if 65560 < t.length then ([], 3)
  else if sameS (tagF s (fromF t).n (fromF t).text) (fromF t).tag = true then (hidF s (fromF t).n (fromF t).text, 0) else ([], 8)
def sumS (b : List UInt8) : List UInt8 × Int :=
  if b.length < 4 then ([], 2)
  else if C.okO b (b.length - 4) then (b.take (b.length - 4), 0) else ([], 7)
def openS (s : St) (b : List UInt8) : List UInt8 × Int :=
  if 131072 < b.length then ([], 3)
  else if (sumS b).2 ≠ 0 then ([], (sumS b).2)
  else if (innerS s (sumS b).1).2 ≠ 0 then ([], (innerS s (sumS b).1).2)
  else unpU (innerS s (sumS b).1).1
structure Pc where
  at_ : Int
  len : Int
  sum : Reg
def pcC (p : Pc) : Array Value := #[.int .i64 p.at_, .int .i64 p.len, u32v p.sum]
def pcL (p : Pc) : List Value := [.int .i64 p.at_, .int .i64 p.len, u32v p.sum]
abbrev pcV (p : Pc) : Value := .agg #[.int .i64 p.at_, .int .i64 p.len, u32v p.sum]
def pcsF (k : Nat) : List (List UInt8) → List Pc
  | [] => []
  | b :: r => ⟨k, b.length, C.sumR b⟩ :: pcsF (k + b.length) r
theorem pcs_len (k : Nat) (l : List (List UInt8)) : (pcsF k l).length = l.length := by
  induction l generalizing k with
  | nil => rfl
  | cons b r ih => simp [pcsF, ih]
theorem pcs_snoc (k : Nat) (l : List (List UInt8)) (b : List UInt8) : pcsF k (l ++ [b]) = pcsF k l ++ [⟨((k + l.flatten.length : Nat) : Int), b.length, C.sumR b⟩] := by
  induction l generalizing k with
  | nil => simp [pcsF]
  | cons a r ih => simp [pcsF, ih, Nat.add_assoc]
def findE (t : List UInt8) (p : Pc) : Int :=
  if p.at_ < 0 ∨ p.len < 0 ∨ (t.length : Int) - p.at_ < p.len then 1
  else if C.sumR ((t.drop p.at_.toNat).take p.len.toNat) = p.sum then 0 else 7
def findT (t : List UInt8) (p : Pc) : List UInt8 := if findE t p = 0 then (t.drop p.at_.toNat).take p.len.toNat else []
def testE (t : List UInt8) : List Pc → Int
  | [] => 0
  | p :: r => if findE t p ≠ 0 then findE t p else testE t r
def testS (s : St) (b : List UInt8) (l : List Pc) : Int := if (openS s b).2 ≠ 0 then (openS s b).2 else testE (openS s b).1 l
end Go.Proofs.YthkccpemgmpadaaGreatDoor

namespace Go.Proofs.YthkccpemgmpadaaGreatDoor
set_option maxRecDepth 100000
open Go.RowKit
def Ans (R : List UInt8 × Int) (w : World) (e : Ending) (w' : World) : Prop :=
  ∃ A c, e = .returned (.tuple #[.slice A R.1.length c, .int .i64 R.2]) ∧ OwnB w' w.heap.size (.slice A R.1.length c) R.1 ∧ Below w.heap.size w w'
theorem Ans.none {R : List UInt8 × Int} {er : Int} {w w' : World} {e : Ending} (h : R = ([], er)) (he : e = .returned (.tuple #[.slice none 0 0, .int .i64 er])) (hb : Below w.heap.size w w') : Ans R w e w' := by
  subst h
  exact ⟨Option.none, 0, he, World.ownsRow_nil _ _ _ _, hb⟩
theorem own_nn {w : World} {base n : Nat} {v : Value} {l : List UInt8} (h : w.ownsRow base 5 1 v n (l.map u8v)) : n = l.length := by
  have := h.1
  simp at this; omega
theorem bs_C {lo hi : Nat} {w : World} {v : Value} {l : List UInt8} (h : Bs lo hi w v l) : C.Bs lo hi w v l := h
theorem bs_M {lo hi : Nat} {w : World} {v : Value} {l : List UInt8} (h : Bs lo hi w v l) : P.M.Bs lo hi w v l := h
theorem Pack_u (lo : Nat) (v : Value) (b : List UInt8) (w : World) (h : Bs lo w.heap.size w v b) (hl : b.length ≤ 1000) :
    Calls Tryz.prog 28 #[v] w (Ans (pkU b, 0) w) :=
  (P.Pack_good lo v b w (bs_M h) hl).mono fun e w' ⟨A, c, he, ho, hb⟩ => by
    rw [← octs_pkU (b := b) (by omega), P.octs_byc, P.octs_len] at ho
    rw [← pkU_len] at he
    exact ⟨A, c, he, ho, hb⟩
theorem Unpack_u (lo : Nat) (v : Value) (t : List UInt8) (w : World) (h : Bs lo w.heap.size w v t) (hl : t.length ≤ 1000000) :
    Calls Tryz.prog 46 #[v, .int .i64 65536] w (Ans (unpU t) w) :=
  (P.Unpack_any lo v (P.octs t) 65536 w (P.os_of (bs_M h)) (P.octs_ok t) (by rw [P.octs_len]; exact hl)).mono fun e w' ⟨A, n, c, he, ho, hb⟩ => by
    obtain rfl := own_nn (l := (P.unpackR (P.octs t) 65536).1) ho
    exact ⟨A, c, he, ho, hb⟩
theorem sum_u (lo hi : Nat) (v : Value) (l : List UInt8) (w : World) (h : Bs lo hi w v l) :
    Calls Tryz.prog 39 #[v] w fun e w' => e = .returned (u32v (C.sumR l)) ∧ w = w' := C.sum_any lo hi v l w (bs_C h)
theorem crcSeal_u (lo : Nat) (v : Value) (l : List UInt8) (w : World) (h : Bs lo w.heap.size w v l) (hL : l.length ≤ 900000) :
    Calls Tryz.prog 31 #[v] w fun e w' => ∃ A c, e = .returned (.slice A (C.sealL l).length c) ∧ OwnB w' w.heap.size (.slice A (C.sealL l).length c) (C.sealL l) ∧ Below w.heap.size w w' :=
  (C.seal_any lo v l w (bs_C h) hL).mono fun e w' ⟨A, c, he, ho, hb⟩ => by
    rw [← C.sealL_len] at he ho
    exact ⟨A, c, he, ho, hb⟩
theorem crcOpen_u (lo : Nat) (v : Value) (b : List UInt8) (w : World) (h : Bs lo w.heap.size w v b) (hL : b.length ≤ 900000) :
    Calls Tryz.prog 41 #[v] w (Ans (sumS b) w) := by
  by_cases h4 : b.length < 4
  · obtain ⟨A, c, rfl⟩ := h.form
    refine (C.open_short A _ c w h4).mono fun e w' ⟨he, hw⟩ => ?_
    subst hw
    exact Ans.none (er := 2) (by unfold sumS; rw [if_pos h4]) he (Below.refl _ _)
  · refine (C.open_any lo (b.length - 4) v b w (bs_C h) (by omega) (by omega)).mono fun e w' ⟨A, c, er, he, her, ho, hb⟩ => ?_
    cases hc : C.okO b (b.length - 4) with
    | true =>
      rw [hc] at he her ho
      simp only [↓reduceIte] at he her ho
      obtain rfl := her
      have hn : (b.take (b.length - 4)).length = b.length - 4 := by rw [List.length_take]; omega
      have e0 : sumS b = (b.take (b.length - 4), 0) := by unfold sumS; rw [if_neg h4, if_pos hc]
      unfold Ans
      rw [e0]
      refine ⟨A, c, by rw [hn]; exact he, ?_, hb⟩
      show w'.ownsRow w.heap.size 5 1 (.slice A (b.take (b.length - 4)).length c) (b.take (b.length - 4)).length _
      rw [hn]
      exact ho
    | false =>
      rw [hc] at he her ho
      simp only [Bool.false_eq_true, ↓reduceIte, List.take_zero] at he her ho
      obtain rfl := her
      have e0 : sumS b = ([], 7) := by unfold sumS; rw [if_neg h4, if_neg (by rw [hc]; simp)]
      unfold Ans
      rw [e0]
      exact ⟨A, c, he, ho, hb⟩
end Go.Proofs.YthkccpemgmpadaaGreatDoor

namespace Go.Proofs.YthkccpemgmpadaaGreatDoor
set_option maxRecDepth 100000
open Go.RowKit
set_option maxHeartbeats 1000000 in
theorem opener1_short (s : St) (g : Nat) (v : Value) (t : List UInt8) (w : World) (h : Bs 0 w.heap.size w v t) (hl : t.length < 24) :
    Calls Tryz.prog 42 #[v, .pointer (some ⟨g, 0, none⟩)] w (Ans (innerS s t) w) := by
  have hF := From_short 0 v t w h hl
  have hR : innerS s t = ([], 2) := by unfold innerS; rw [if_pos hl]
  replace hF := hide hF; replace hR := hide hR
  clear h hl
  go_enter Tryz.func42, Tryz.ntmps42
  go_wp2_with (first
    | (go_at_call 43; refine (unhide hF).mono ?_; rintro e w2 ⟨rfl, hb2⟩; replace hb2 := hide hb2)
    | fail)
  go_ret2
  exact Ans.none (unhide hR) rfl (bl_alloc (unhide hb2) _)
set_option maxHeartbeats 1000000 in
theorem opener1_good (s : St) (g : Nat) (v : Value) (t : List UInt8) (w : World) (ht : Tab w) (hg : Blk w g 24 (stC s)) (h : Bs 0 w.heap.size w v t) (hl : 24 ≤ t.length) (hl2 : t.length ≤ 60000) :
    Calls Tryz.prog 42 #[v, .pointer (some ⟨g, 0, none⟩)] w (Ans (innerS s t) w) := by
  have hF := From_good v t w h hl (by omega)
  have hR : innerS s t = (if sameS (tagF s (fromF t).n (fromF t).text) (fromF t).tag = true then (hidF s (fromF t).n (fromF t).text, 0) else ([], 8)) := by unfold innerS; rw [if_neg (by omega), if_neg (by omega)]
  have hx : (fromF t).text.length ≤ 65536 := by show (t.drop 24).length ≤ _; rw [List.length_drop]; omega
  have hO := fun v W (hb : Below w.heap.size w W) (h2 : Bs 0 W.heap.size W v (fromF t).text) => Open_any s (fromF t).n v (fromF t).text (fromF t).tag W (ht.below hb (Nat.le_refl _)) h2 hx
  have hH := hid_len s (fromF t).n (fromF t).text
  have gl := hg.lt
  generalize hidF s (fromF t).n (fromF t).text = H at *
  generalize tagF s (fromF t).n (fromF t).text = T at *
  generalize fromF t = x at *
  obtain ⟨xn, xl, xt⟩ := x
  simp only [] at hF hO hR hH hx
  cases hz : sameS T xt with
  | true =>
    rw [hz] at hO hR
    simp only [↓reduceIte] at hO hR
    replace hF := hide hF; replace hR := hide hR; replace hO := hide hO; replace hg := hide hg; replace hH := hide hH
    clear h hl hl2 hx ht hz
    generalize xl.length = m at *
    go_enter Tryz.func42, Tryz.ntmps42
    go_wp2_with (first
      | (go_at_call 43; refine (unhide hF).mono ?_; rintro e w2 ⟨A2, c2, rfl, o2, hb2⟩
         have y2 := hide (Bs.of_own0 o2)
         have g2 := (unhide hg).call hb2
         have g0 : w2.cell? ⟨g, 0, none⟩ = some (u32v s.a) := g2.cell 0
         have g1 : w2.cell? ⟨g, 1, none⟩ = some (u32v s.b) := g2.cell 1
         have g3 : w2.cell? ⟨g, 2, none⟩ = some (u32v s.c) := g2.cell 2
         have g4 : w2.cell? ⟨g, 3, none⟩ = some (u32v s.d) := g2.cell 3
         have gl2 : g < w2.heap.size := g2.lt
         replace hb2 := hide hb2
         clear o2 g2)
      | (go_at_call 44; refine (unhide hO _ _ (bl_alloc (unhide hb2) _) ((unhide y2).to (bl_alloc (Below.refl _ _) _))).mono ?_; rintro e w3 ⟨⟨A3, c3, rfl, o3⟩, hb3⟩
         have b3 := hide (bl_call (bl_alloc (unhide hb2) _) hb3)
         have o3' := hide (ownsRow_mono (base' := w.heap.size) o3 (bl_alloc (unhide hb2) _).size)
         clear o3 hb3)
      | fail)
    go_ret2
    unfold Ans
    rw [unhide hR]
    exact ⟨A3, c3, by rw [unhide hH]; rfl, by have := unhide o3'; rw [← unhide hH] at this; exact this, unhide b3⟩
  | false =>
    rw [hz] at hO hR
    simp only [Bool.false_eq_true, ↓reduceIte] at hO hR
    replace hF := hide hF; replace hR := hide hR; replace hO := hide hO; replace hg := hide hg
    clear h hl hl2 hx ht hz hH
    generalize xl.length = m at *
    go_enter Tryz.func42, Tryz.ntmps42
    go_wp2_with (first
      | (go_at_call 43; refine (unhide hF).mono ?_; rintro e w2 ⟨A2, c2, rfl, o2, hb2⟩
         have y2 := hide (Bs.of_own0 o2)
         have g2 := (unhide hg).call hb2
         have g0 : w2.cell? ⟨g, 0, none⟩ = some (u32v s.a) := g2.cell 0
         have g1 : w2.cell? ⟨g, 1, none⟩ = some (u32v s.b) := g2.cell 1
         have g3 : w2.cell? ⟨g, 2, none⟩ = some (u32v s.c) := g2.cell 2
         have g4 : w2.cell? ⟨g, 3, none⟩ = some (u32v s.d) := g2.cell 3
         have gl2 : g < w2.heap.size := g2.lt
         replace hb2 := hide hb2
         clear o2 g2)
      | (go_at_call 44; refine (unhide hO _ _ (bl_alloc (unhide hb2) _) ((unhide y2).to (bl_alloc (Below.refl _ _) _))).mono ?_; rintro e w3 ⟨rfl, hb3⟩
         have b3 := hide (bl_call (bl_alloc (unhide hb2) _) hb3)
         clear hb3)
      | fail)
    go_ret2
    exact Ans.none (unhide hR) rfl (unhide b3)
theorem opener1_any (s : St) (g : Nat) (v : Value) (t : List UInt8) (w : World) (ht : Tab w) (hg : Blk w g 24 (stC s)) (h : Bs 0 w.heap.size w v t) (hl : t.length ≤ 60000) :
    Calls Tryz.prog 42 #[v, .pointer (some ⟨g, 0, none⟩)] w (Ans (innerS s t) w) := by
  by_cases h4 : t.length < 24
  · exact opener1_short s g v t w h h4
  · exact opener1_good s g v t w ht hg h (by omega) hl
set_option maxHeartbeats 400000 in
theorem opener2_any (lo : Nat) (v : Value) (t : List UInt8) (w : World) (h : Bs lo w.heap.size w v t) (hl : t.length ≤ 1000000) :
    Calls Tryz.prog 45 #[v] w (Ans (unpU t) w) := by
  have hU := Unpack_u lo v t w h hl
  obtain ⟨A, c, rfl⟩ := h.form
  unfold Ans at hU ⊢
  generalize unpU t = R at *
  obtain ⟨R1, R2⟩ := R
  replace hU := hide hU
  clear h hl
  go_enter Tryz.func45, Tryz.ntmps45
  go_wp2_with (first
    | (go_at_call 46; refine (unhide hU).mono ?_; rintro e w2 ⟨A2, c2, rfl, o2, hb2⟩; replace o2 := hide o2; replace hb2 := hide hb2)
    | fail)
  go_ret2
  exact ⟨A2, c2, rfl, unhide o2, unhide hb2⟩
theorem run_store_func (P : Program) (w : World) (a : Addr) (m : Mode) (f : Fn) (x y : Array Value) : (store a (.func f x y) m).run P w = stored P w a (.func f x y) m := run_store P w a _ m rfl
section
attribute [local go_sem] run_store_func
set_option maxHeartbeats 400000 in
theorem openers_any (s : St) (w : World) :
    Calls Tryz.prog 23 #[stV s] w fun e w' => e = .returned (.agg #[.func (.func 41) #[] #[], .func (.func 42) #[] #[.pointer (some ⟨w.heap.size, 0, none⟩)], .func (.func 45) #[] #[]]) ∧ Below w.heap.size w w' ∧ Blk w' w.heap.size 24 (stC s) := by
  go_enter Tryz.func23, Tryz.ntmps23
  go_wp2_with fail
  refine bodyPost_ret (v := .agg #[.func (.func 41) #[] #[], .func (.func 42) #[] #[.pointer (some ⟨w.heap.size, 0, none⟩)], .func (.func 45) #[] #[]]) ?_ rfl ⟨rfl, ?_, ?_⟩
  · simp [results, Tryz.results23, go_sem]
  · exact bl_alloc (bl_alloc (Below.refl _ _) _) _
  · exact Blk.alloc (Blk.new rfl) _
end
end Go.Proofs.YthkccpemgmpadaaGreatDoor

namespace Go.Proofs.YthkccpemgmpadaaGreatDoor
set_option maxRecDepth 100000
open Go.RowKit
theorem unp_err (t : List UInt8) (h : (unpU t).2 ≠ 0) : (unpU t).1 = [] := by
  revert h
  unfold unpU P.unpackR
  split
  · intro _; rfl
  · split
    · intro _; rfl
    · split
      · intro _; rfl
      · split
        · intro _; rfl
        · split
          · intro _; rfl
          · split
            · intro h; exact absurd rfl h
            · intro _; rfl
theorem fn_0 (g : Nat) (W : World) : (Instr.index 52 (.agg #[.func (.func 41) #[] #[], .func (.func 42) #[] #[.pointer (some ⟨g, 0, none⟩)], .func (.func 45) #[] #[]]) (.int .i64 0)).run Tryz.prog W = .ok (.func (.func 41) #[] #[]) W := by kernel_rfl
theorem fn_1 (g : Nat) (W : World) : (Instr.index 52 (.agg #[.func (.func 41) #[] #[], .func (.func 42) #[] #[.pointer (some ⟨g, 0, none⟩)], .func (.func 45) #[] #[]]) (.int .i64 1)).run Tryz.prog W = .ok (.func (.func 42) #[] #[.pointer (some ⟨g, 0, none⟩)]) W := by kernel_rfl
theorem fn_2 (g : Nat) (W : World) : (Instr.index 52 (.agg #[.func (.func 41) #[] #[], .func (.func 42) #[] #[.pointer (some ⟨g, 0, none⟩)], .func (.func 45) #[] #[]]) (.int .i64 2)).run Tryz.prog W = .ok (.func (.func 45) #[] #[]) W := by kernel_rfl
set_option maxHeartbeats 2000000 in
theorem Open_1 (s : St) (v : Value) (b : List UInt8) (w : World) (ht : Tab w) (h : Bs 0 w.heap.size w v b) (hl : b.length ≤ 60000) (h1 : (sumS b).2 ≠ 0) :
    Calls Tryz.prog 9 #[stV s, v] w (Ans (openS s b) w) := by
  have hA := fun W (hb : Below w.heap.size w W) => crcOpen_u 0 v b W (h.to hb) (by omega)
  have hl1 : (sumS b).1.length ≤ b.length := by
    unfold sumS
    split
    · simp
    · split
      · simp only [List.length_take]; omega
      · simp
  have hB := fun g v1 W (hb : Below w.heap.size w W) (hg : Blk W g 24 (stC s)) (h2 : Bs 0 W.heap.size W v1 (sumS b).1) => opener1_any s g v1 (sumS b).1 W (ht.below hb (Nat.le_refl _)) hg h2 (by omega)
  have hl2 : (innerS s (sumS b).1).1.length ≤ 65536 := by
    unfold innerS
    split
    · simp
    · split
      · simp
      · split
        · simp only [hid_len]; show ((sumS b).1.drop 24).length ≤ _; rw [List.length_drop]; omega
        · simp
  have hC := fun v1 W (h2 : Bs 0 W.heap.size W v1 (innerS s (sumS b).1).1) => opener2_any 0 v1 (innerS s (sumS b).1).1 W h2 (by omega)
  have hR : openS s b = ([], (sumS b).2) := by unfold openS; rw [if_neg (by omega), if_pos h1]
  rw [hR]
  have hk : ¬ (131072 : Int) < (b.length : Int) := by omega
  obtain ⟨A, c, rfl⟩ := h.form
  unfold Ans at hA hB hC
  generalize unpU (innerS s (sumS b).1).1 = R3 at *
  generalize innerS s (sumS b).1 = R2 at *
  generalize sumS b = R1 at *
  obtain ⟨T1, e1⟩ := R1; obtain ⟨T2, e2⟩ := R2; obtain ⟨T3, e3⟩ := R3
  simp only [] at hA hB hC h1 hl1 hl2
  have k1 : (e1 == 0) = false := by simpa using h1
  generalize b.length = m at *
  generalize T1.length = m1 at *
  generalize T2.length = m2 at *
  generalize T3.length = m3 at *
  replace hA := hide hA; replace hB := hide hB; replace hC := hide hC
  clear hR h hl hl1 hl2 ht h1
  have X0 : Fx w (w.alloc (.cells (stC s) 24)) [(w.heap.size, 24, stC s)] [] [] := (Fx.nil w).newB w.heap.size rfl (stC s) 24
  replace X0 := hide X0
  go_enter Tryz.func9, Tryz.ntmps9
  go_upto_region 1 with (fail)
  generalize hW : World.alloc w _ = W at *
  clear hW
  have c00 : W.cell? ⟨w.heap.size, 0, none⟩ = some (u32v s.a) := ((unhide X0).get 0 rfl).cell 0
  have c01 : W.cell? ⟨w.heap.size, 1, none⟩ = some (u32v s.b) := ((unhide X0).get 0 rfl).cell 1
  have c02 : W.cell? ⟨w.heap.size, 2, none⟩ = some (u32v s.c) := ((unhide X0).get 0 rfl).cell 2
  have c03 : W.cell? ⟨w.heap.size, 3, none⟩ = some (u32v s.d) := ((unhide X0).get 0 rfl).cell 3
  go_wp2_with (first
    | (go_at_call 23; refine (openers_any s _).mono ?_; rintro e w2 ⟨rfl, hb2, k2'⟩
       have X2 : Fx w w2 [(w.heap.size, 24, stC s), (W.heap.size, 24, stC s)] [] [] := ((unhide X0).call hb2).addB k2'
       generalize hg : W.heap.size = g at *
       clear hg hb2 k2'
       replace X2 := hide X2)
    | fail)
  have x0 := fn_0 g
  have x1 := fn_1 g
  have x2 := fn_2 g
  refine wp_loop_rounds 4 ?_
  rw [rounds_succ]
  go_wp2_with (first
    | (go_at_call 41; refine (unhide hA _ (unhide X2).bl).mono ?_; rintro e w3 ⟨A3, c3, rfl, o3, hb3⟩
       have X3 : Fx w w3 [(w.heap.size, 24, stC s), (g, 24, stC s)] [] [(.slice A3 m1 c3, T1)] := ((unhide X2).call hb3).addZ (Bs.of_own0 o3)
       have b3 := hide X3.bl
       replace X3 := hide X3
       clear o3 hb3)
    | fail)
  go_ret2
  exact Ans.none rfl rfl (unhide b3)
set_option maxHeartbeats 2000000 in
theorem Open_2 (s : St) (v : Value) (b : List UInt8) (w : World) (ht : Tab w) (h : Bs 0 w.heap.size w v b) (hl : b.length ≤ 60000) (h1 : (sumS b).2 = 0) (h2 : (innerS s (sumS b).1).2 ≠ 0) :
    Calls Tryz.prog 9 #[stV s, v] w (Ans (openS s b) w) := by
  have hA := fun W (hb : Below w.heap.size w W) => crcOpen_u 0 v b W (h.to hb) (by omega)
  have hl1 : (sumS b).1.length ≤ b.length := by
    unfold sumS
    split
    · simp
    · split
      · simp only [List.length_take]; omega
      · simp
  have hB := fun g v1 W (hb : Below w.heap.size w W) (hg : Blk W g 24 (stC s)) (h2 : Bs 0 W.heap.size W v1 (sumS b).1) => opener1_any s g v1 (sumS b).1 W (ht.below hb (Nat.le_refl _)) hg h2 (by omega)
  have hl2 : (innerS s (sumS b).1).1.length ≤ 65536 := by
    unfold innerS
    split
    · simp
    · split
      · simp
      · split
        · simp only [hid_len]; show ((sumS b).1.drop 24).length ≤ _; rw [List.length_drop]; omega
        · simp
  have hC := fun v1 W (h2 : Bs 0 W.heap.size W v1 (innerS s (sumS b).1).1) => opener2_any 0 v1 (innerS s (sumS b).1).1 W h2 (by omega)
  have hR : openS s b = ([], (innerS s (sumS b).1).2) := by unfold openS; rw [if_neg (by omega), if_neg (by rw [h1]; simp), if_pos h2]
  rw [hR]
  have hk : ¬ (131072 : Int) < (b.length : Int) := by omega
  obtain ⟨A, c, rfl⟩ := h.form
  unfold Ans at hA hB hC
  generalize unpU (innerS s (sumS b).1).1 = R3 at *
  generalize innerS s (sumS b).1 = R2 at *
  generalize sumS b = R1 at *
  obtain ⟨T1, e1⟩ := R1; obtain ⟨T2, e2⟩ := R2; obtain ⟨T3, e3⟩ := R3
  simp only [] at hA hB hC h1 h2 hl1 hl2
  subst h1
  have k2 : (e2 == 0) = false := by simpa using h2
  generalize b.length = m at *
  generalize T1.length = m1 at *
  generalize T2.length = m2 at *
  generalize T3.length = m3 at *
  replace hA := hide hA; replace hB := hide hB; replace hC := hide hC
  clear hR h hl hl1 hl2 ht h2
  have X0 : Fx w (w.alloc (.cells (stC s) 24)) [(w.heap.size, 24, stC s)] [] [] := (Fx.nil w).newB w.heap.size rfl (stC s) 24
  replace X0 := hide X0
  go_enter Tryz.func9, Tryz.ntmps9
  go_upto_region 1 with (fail)
  generalize hW : World.alloc w _ = W at *
  clear hW
  have c00 : W.cell? ⟨w.heap.size, 0, none⟩ = some (u32v s.a) := ((unhide X0).get 0 rfl).cell 0
  have c01 : W.cell? ⟨w.heap.size, 1, none⟩ = some (u32v s.b) := ((unhide X0).get 0 rfl).cell 1
  have c02 : W.cell? ⟨w.heap.size, 2, none⟩ = some (u32v s.c) := ((unhide X0).get 0 rfl).cell 2
  have c03 : W.cell? ⟨w.heap.size, 3, none⟩ = some (u32v s.d) := ((unhide X0).get 0 rfl).cell 3
  go_wp2_with (first
    | (go_at_call 23; refine (openers_any s _).mono ?_; rintro e w2 ⟨rfl, hb2, k2'⟩
       have X2 : Fx w w2 [(w.heap.size, 24, stC s), (W.heap.size, 24, stC s)] [] [] := ((unhide X0).call hb2).addB k2'
       generalize hg : W.heap.size = g at *
       clear hg hb2 k2'
       replace X2 := hide X2)
    | fail)
  have x0 := fn_0 g
  have x1 := fn_1 g
  have x2 := fn_2 g
  refine wp_loop_rounds 4 ?_
  rw [rounds_succ]
  go_wp2_with (first
    | (go_at_call 41; refine (unhide hA _ (unhide X2).bl).mono ?_; rintro e w3 ⟨A3, c3, rfl, o3, hb3⟩
       have X3 : Fx w w3 [(w.heap.size, 24, stC s), (g, 24, stC s)] [] [(.slice A3 m1 c3, T1)] := ((unhide X2).call hb3).addZ (Bs.of_own0 o3)
       have b3 := hide X3.bl
       replace X3 := hide X3
       clear o3 hb3)
    | fail)
  rw [rounds_succ]
  go_wp2_with (first
    | (go_at_call 42; refine (unhide hB _ _ _ (unhide X3).bl ((unhide X3).get 1 rfl) ((unhide X3).rd 0 rfl)).mono ?_; rintro e w4 ⟨A4, c4, rfl, o4, hb4⟩
       have X4 : Fx w w4 [(w.heap.size, 24, stC s), (g, 24, stC s)] [] [(.slice A4 m2 c4, T2)] := ((unhide X3).sub (Z' := []) (fun _ h => h) (fun _ h => h) (fun _ h => (nomatch h)) |>.call hb4).addZ (Bs.of_own0 o4)
       have b4 := hide X4.bl
       replace X4 := hide X4
       clear o4 hb4)
    | fail)
  go_ret2
  exact Ans.none rfl rfl (unhide b4)
set_option maxHeartbeats 2000000 in
theorem Open_3 (s : St) (v : Value) (b : List UInt8) (w : World) (ht : Tab w) (h : Bs 0 w.heap.size w v b) (hl : b.length ≤ 60000) (h1 : (sumS b).2 = 0) (h2 : (innerS s (sumS b).1).2 = 0) :
    Calls Tryz.prog 9 #[stV s, v] w (Ans (openS s b) w) := by
  have hA := fun W (hb : Below w.heap.size w W) => crcOpen_u 0 v b W (h.to hb) (by omega)
  have hl1 : (sumS b).1.length ≤ b.length := by
    unfold sumS
    split
    · simp
    · split
      · simp only [List.length_take]; omega
      · simp
  have hB := fun g v1 W (hb : Below w.heap.size w W) (hg : Blk W g 24 (stC s)) (h2 : Bs 0 W.heap.size W v1 (sumS b).1) => opener1_any s g v1 (sumS b).1 W (ht.below hb (Nat.le_refl _)) hg h2 (by omega)
  have hl2 : (innerS s (sumS b).1).1.length ≤ 65536 := by
    unfold innerS
    split
    · simp
    · split
      · simp
      · split
        · simp only [hid_len]; show ((sumS b).1.drop 24).length ≤ _; rw [List.length_drop]; omega
        · simp
  have hC := fun v1 W (h2 : Bs 0 W.heap.size W v1 (innerS s (sumS b).1).1) => opener2_any 0 v1 (innerS s (sumS b).1).1 W h2 (by omega)
  have hR : openS s b = unpU (innerS s (sumS b).1).1 := by unfold openS; rw [if_neg (by omega), if_neg (by rw [h1]; simp), if_neg (by rw [h2]; simp)]
  have hE := unp_err (innerS s (sumS b).1).1
  rw [hR]
  have hk : ¬ (131072 : Int) < (b.length : Int) := by omega
  obtain ⟨A, c, rfl⟩ := h.form
  unfold Ans at hA hB hC
  generalize unpU (innerS s (sumS b).1).1 = R3 at *
  generalize innerS s (sumS b).1 = R2 at *
  generalize sumS b = R1 at *
  obtain ⟨T1, e1⟩ := R1; obtain ⟨T2, e2⟩ := R2; obtain ⟨T3, e3⟩ := R3
  simp only [] at hE hA hB hC h1 h2 hl1 hl2
  subst h1 h2
  generalize b.length = m at *
  generalize T1.length = m1 at *
  generalize T2.length = m2 at *
  obtain ⟨m3, hm3⟩ : ∃ m3, T3.length = m3 := ⟨_, rfl⟩
  rw [hm3] at hC
  replace hE := hide hE; replace hm3 := hide hm3
  replace hA := hide hA; replace hB := hide hB; replace hC := hide hC
  clear hR h hl hl1 hl2 ht 
  have X0 : Fx w (w.alloc (.cells (stC s) 24)) [(w.heap.size, 24, stC s)] [] [] := (Fx.nil w).newB w.heap.size rfl (stC s) 24
  replace X0 := hide X0
  go_enter Tryz.func9, Tryz.ntmps9
  go_upto_region 1 with (fail)
  generalize hW : World.alloc w _ = W at *
  clear hW
  have c00 : W.cell? ⟨w.heap.size, 0, none⟩ = some (u32v s.a) := ((unhide X0).get 0 rfl).cell 0
  have c01 : W.cell? ⟨w.heap.size, 1, none⟩ = some (u32v s.b) := ((unhide X0).get 0 rfl).cell 1
  have c02 : W.cell? ⟨w.heap.size, 2, none⟩ = some (u32v s.c) := ((unhide X0).get 0 rfl).cell 2
  have c03 : W.cell? ⟨w.heap.size, 3, none⟩ = some (u32v s.d) := ((unhide X0).get 0 rfl).cell 3
  go_wp2_with (first
    | (go_at_call 23; refine (openers_any s _).mono ?_; rintro e w2 ⟨rfl, hb2, k2'⟩
       have X2 : Fx w w2 [(w.heap.size, 24, stC s), (W.heap.size, 24, stC s)] [] [] := ((unhide X0).call hb2).addB k2'
       generalize hg : W.heap.size = g at *
       clear hg hb2 k2'
       replace X2 := hide X2)
    | fail)
  have x0 := fn_0 g
  have x1 := fn_1 g
  have x2 := fn_2 g
  refine wp_loop_rounds 4 ?_
  rw [rounds_succ]
  go_wp2_with (first
    | (go_at_call 41; refine (unhide hA _ (unhide X2).bl).mono ?_; rintro e w3 ⟨A3, c3, rfl, o3, hb3⟩
       have X3 : Fx w w3 [(w.heap.size, 24, stC s), (g, 24, stC s)] [] [(.slice A3 m1 c3, T1)] := ((unhide X2).call hb3).addZ (Bs.of_own0 o3)
       have b3 := hide X3.bl
       replace X3 := hide X3
       clear o3 hb3)
    | fail)
  rw [rounds_succ]
  go_wp2_with (first
    | (go_at_call 42; refine (unhide hB _ _ _ (unhide X3).bl ((unhide X3).get 1 rfl) ((unhide X3).rd 0 rfl)).mono ?_; rintro e w4 ⟨A4, c4, rfl, o4, hb4⟩
       have X4 : Fx w w4 [(w.heap.size, 24, stC s), (g, 24, stC s)] [] [(.slice A4 m2 c4, T2)] := ((unhide X3).sub (Z' := []) (fun _ h => h) (fun _ h => h) (fun _ h => (nomatch h)) |>.call hb4).addZ (Bs.of_own0 o4)
       have b4 := hide X4.bl
       replace X4 := hide X4
       clear o4 hb4)
    | fail)
  rw [rounds_succ]
  go_wp2_with (first
    | (go_at_call 45; refine (unhide hC _ _ ((unhide X4).rd 0 rfl)).mono ?_; rintro e w5 ⟨A5, c5, rfl, o5, hb5⟩
       have o5' := hide (ownsRow_mono (base' := w.heap.size) o5 (unhide X4).bl.size)
       have b5 := hide (bl_call (unhide X4).bl hb5)
       clear o5 hb5)
    | fail)
  · rename_i hne
    go_ret2
    exact Ans.none (er := e3) (by rw [unhide hE (by simpa using hne)]) rfl (unhide b5)
  · rename_i hne
    have hz : e3 = 0 := by simpa using hne
    replace hz := hide hz
    clear hne
    rw [rounds_succ]
    go_wp2_with fail
    go_ret2
    unfold Ans
    exact ⟨A5, c5, by simp only [unhide hm3, unhide hz]; rfl, by have := unhide o5'; rw [← unhide hm3] at this; exact this, unhide b5⟩
theorem Open_any' (s : St) (v : Value) (b : List UInt8) (w : World) (ht : Tab w) (h : Bs 0 w.heap.size w v b) (hl : b.length ≤ 60000) :
    Calls Tryz.prog 9 #[stV s, v] w (Ans (openS s b) w) := by
  by_cases h1 : (sumS b).2 = 0
  · by_cases h2 : (innerS s (sumS b).1).2 = 0
    · exact Open_3 s v b w ht h hl h1 h2
    · exact Open_2 s v b w ht h hl h1 h2
  · exact Open_1 s v b w ht h hl h1
end Go.Proofs.YthkccpemgmpadaaGreatDoor

namespace Go.Proofs.YthkccpemgmpadaaGreatDoor
set_option maxRecDepth 100000
open Go.RowKit
theorem Bss.grow {w w' : World} {v : Value} {l : List (List UInt8)} (h : Bss w.heap.size w v l) (hb : Below w.heap.size w w') : Bss w'.heap.size w' v l := by
  obtain ⟨A, c, e, h⟩ := h
  refine ⟨A, c, e, fun i x hx => ?_⟩
  obtain ⟨b, off, Ai, ci, e, h1, h2, h3⟩ := h i x hx
  exact ⟨b, off, Ai, ci, e, Nat.lt_of_lt_of_le h1 hb.size, (hb.cell (p := ⟨b, off + i, none⟩) h1).trans h2, h3.to hb⟩
structure Tx (b off : Nat) (w : World) (l : List (List UInt8)) : Prop where
  lt : b < w.heap.size
  at_ : ∀ k (hk : k < l.length), ∃ A c, w.cell? ⟨b, off + k, none⟩ = some (.slice A l[k].length c) ∧ Bs 0 w.heap.size w (.slice A l[k].length c) l[k]
theorem Tx.grow {b off : Nat} {w w' : World} {l : List (List UInt8)} (h : Tx b off w l) (hb : Below w.heap.size w w') : Tx b off w' l :=
  ⟨Nat.lt_of_lt_of_le h.lt hb.size, fun k hk => by
    obtain ⟨A, c, h1, h2⟩ := h.at_ k hk
    exact ⟨A, c, (hb.cell (p := ⟨b, off + k, none⟩) h.lt).trans h1, h2.to hb⟩⟩
theorem Bss.parts {w : World} {v : Value} {l : List (List UInt8)} (h : Bss w.heap.size w v l) : (l = [] ∧ ∃ A c, v = .slice A 0 c) ∨ ∃ b off c, v = .slice (some ⟨b, off, none⟩) l.length c ∧ Tx b off w l := by
  obtain ⟨A, c, rfl, h⟩ := h
  cases l with
  | nil => exact .inl ⟨rfl, A, c, rfl⟩
  | cons x r =>
    obtain ⟨b, off, A0, c0, rfl, h1, h2, h3⟩ := h 0 x rfl
    refine .inr ⟨b, off, c, rfl, h1, fun k hk => ?_⟩
    obtain ⟨b', off', Ai, ci, e, _, g2, g3⟩ := h k _ (List.getElem?_eq_getElem hk)
    injection e with e
    injection e with e1 e2
    subst e1 e2
    exact ⟨Ai, ci, g2, g3⟩
theorem upto_eq (l : List (List UInt8)) : C.upto l l.length = l.flatten.length := by unfold C.upto; rw [List.take_length]
theorem cat_eq (l : List (List UInt8)) : C.cat l l.length = l.flatten := by unfold C.cat; rw [List.take_length]
set_option maxHeartbeats 400000 in
theorem grow_zero (w : World) : Calls Tryz.prog 38 #[.slice none 0 0, .int .i64 0] w fun e w' => e = .returned (.slice none 0 0) ∧ w = w' := by
  go_enter Tryz.func38, Tryz.ntmps38
  go_wp2_with fail
  go_ret
  exact ⟨rfl, rfl⟩
theorem grow_u (n : Nat) (w : World) (hn : n ≤ 1000000) :
    Calls Tryz.prog 38 #[.slice none 0 0, .int .i64 n] w fun e w' => ∃ A c, e = .returned (.slice A 0 c) ∧ w'.ownsRow w.heap.size 5 1 (.slice A 0 c) 0 [] ∧ Below w.heap.size w w' := by
  rcases Nat.eq_zero_or_pos n with rfl | h0
  · refine (grow_zero w).mono ?_
    rintro e w' ⟨rfl, rfl⟩
    exact ⟨none, 0, rfl, World.ownsRow_nil _ _ _ _, Below.refl _ _⟩
  · exact C.grow_any n w h0 hn
set_option maxHeartbeats 400000 in
theorem concat_nil (A : Option Addr) (c : Nat) (w : World) : Calls Tryz.prog 20 #[.slice A 0 c] w fun e w' => e = .returned (.slice none 0 0) ∧ w = w' := by
  have hG := fun W => grow_zero W
  replace hG := hide hG
  go_enter Tryz.func20, Tryz.ntmps20
  go_wp2_with fail
  refine wp_loop_rounds 1 ?_
  rw [rounds_succ]
  go_wp2_with (first
    | (go_at_call 38; refine (unhide hG _).mono ?_; rintro e w1 ⟨rfl, rfl⟩)
    | fail)
  refine wp_loop_rounds 1 ?_
  rw [rounds_succ]
  go_wp2_with fail
  go_ret
  exact ⟨rfl, rfl⟩
set_option maxHeartbeats 2000000 in
theorem concat_at (b off c : Nat) (Ls : List (List UInt8)) (w : World) (h : Tx b off w Ls) (hn : Ls.length ≤ 1000) (hL : C.upto Ls Ls.length ≤ 1000000) :
    Calls Tryz.prog 20 #[.slice (some ⟨b, off, none⟩) Ls.length c] w fun e w' => ∃ A c, e = .returned (.slice A (C.upto Ls Ls.length) c) ∧ w'.ownsRow w.heap.size 5 1 (.slice A (C.upto Ls Ls.length) c) (C.upto Ls Ls.length) ((C.cat Ls Ls.length).map u8v) ∧ Below w.heap.size w w' := by
  obtain ⟨i0, hi0, hz0, hz1, hz2⟩ := info_parts info5
  obtain ⟨n, hn'⟩ : ∃ n, n = Ls.length := ⟨_, rfl⟩
  have hfl := C.flat_le Ls
  have hgrow := fun W => grow_u (C.upto Ls Ls.length) W hL
  rw [← hn'] at hfl hgrow hL ⊢
  have hg := h.lt
  replace h := hide h; replace hn' := hide hn'; replace hfl := hide hfl; replace hgrow := hide hgrow
  have hn2 : n ≤ 1000 := by rw [unhide hn']; exact hn
  clear hn
  go_enter Tryz.func20, Tryz.ntmps20
  go_wp2_with fail
  go_loopw [3, 11] (fun s3 s11 wr => ∃ k : Nat, k ≤ n ∧ s11 = .int .i64 k ∧ s3 = .int .i64 (C.upto Ls k : Nat) ∧ w = wr) (fun _ i _ => n - (intOf i).toNat)
  case atStart => exact ⟨0, by omega, rfl, rfl, rfl⟩
  case round =>
    obtain ⟨k, hk, rfl, rfl, rfl⟩ := hrel
    by_cases hlt : k < n
    · have hlt' : k < Ls.length := by rw [← unhide hn']; exact hlt
      obtain ⟨A, c, hc, _⟩ := (unhide h).at_ k hlt'
      have ha : C.upto Ls (k + 1) = C.upto Ls k + Ls[k].length := C.upto_succ hlt'
      have hb := unhide hfl (k + 1)
      rw [ha] at hb
      generalize ha1 : C.upto Ls k = a at *
      generalize Ls[k].length = b at *
      replace ha := hide ha
      have w1 : (0 : Int) ≤ (a : Int) + (b : Int) := by omega
      have w2 : (a : Int) + (b : Int) ≤ 1000000 := by omega
      go_wp2_with fail
      go_roundw
      case rel => exact ⟨k + 1, by omega, by go_num, by rw [unhide ha]; go_num, by simp⟩
      case measure => simp [intOf]; omega
    · obtain rfl : k = n := by omega
      have hgz : Hid (b < w.heap.size) := hg
      go_wp2_with (go_at_call 38; refine (unhide hgrow _).mono ?_; rintro e w1 ⟨A1, c1, rfl, hown, hb1⟩)
      replace hown := hide hown; replace hb1 := hide hb1
      go_loopw [6, 27] (fun s6 s27 wx => ∃ (j : Nat) (A2 : Option Addr) (c2 : Nat), j ≤ k ∧ s27 = .int .i64 j ∧ s6 = .slice A2 (C.upto Ls j) c2 ∧ Hid (wx.ownsRow w.heap.size 5 1 (.slice A2 (C.upto Ls j) c2) (C.upto Ls j) ((C.cat Ls j).map u8v)) ∧ Hid (Below w.heap.size w wx)) (fun _ i _ => k - (intOf i).toNat)
      case atStart => exact ⟨0, A1, c1, by omega, rfl, rfl, hide (unhide hown), hb1⟩
      case round =>
        obtain ⟨j, A2, c2, hj, rfl, rfl, o2, b2⟩ := hrel
        by_cases hlt2 : j < k
        · have hlt' : j < Ls.length := by rw [← unhide hn']; exact hlt2
          obtain ⟨A, c, hc, hx⟩ := (unhide h).at_ j hlt'
          have ha : C.cat Ls (j + 1) = C.cat Ls j ++ Ls[j] := C.cat_succ hlt'
          have ha' : C.upto Ls (j + 1) = C.upto Ls j + Ls[j].length := C.upto_succ hlt'
          have hb := unhide hfl (j + 1)
          rw [ha'] at hb
          have hsrc := SrcOk.below hx.src.2 (unhide b2)
          have hc' := ((unhide b2).cell (p := ⟨b, off + j, none⟩) hg).trans hc
          have hgx : b < wr.heap.size := Nat.lt_of_lt_of_le hg (unhide b2).size
          have hnl : (Ls[j].map u8v).length = Ls[j].length * 1 := by simp
          have hno := u8s_one Ls[j]
          have hsz := (unhide b2).size
          generalize Ls[j] = N at *
          generalize C.upto Ls j = m at *
          have u1 : m + N.length ≤ maxLen := by simp only [maxLen]; omega
          have u2 : (m + N.length) * 1 ≤ 140737488355328 := by omega
          replace ha := hide ha; replace hsrc := hide hsrc; replace hnl := hide hnl; replace hno := hide hno; replace u1 := hide u1; replace u2 := hide u2; replace hb := hide hb
          replace ha' := hide ha'
          clear hc hx
          go_wp2_with (first
            | (at_builtin
               refine wpList_app _ rfl (.tmp 31) (.tmp 32) 29 rfl w.heap.size 5 i0 _ 1 1 Tryz.underlying29 hi0 hz0 hz1 hz2 rfl (Nat.succ_pos _) _ m ((C.cat Ls j).map u8v) rfl (unhide o2) A N.length c (N.map u8v) rfl (unhide hnl) (unhide hsrc) (unhide hno) (unhide u1) (unhide u2) hsz ?_
               intro v' w2 hown2 hg2
               obtain ⟨A3, c3, rfl⟩ := ownsRow_form hown2))
          have hal : (C.cat Ls j).map u8v ++ N.map u8v = (C.cat Ls (j + 1)).map u8v := by rw [unhide ha, List.map_append]
          rw [hal, ← unhide ha'] at hown2
          go_roundw
          case rel => exact ⟨j + 1, A3, c3, by omega, by go_num, by rw [unhide ha'], hide hown2, hide (bl_grown (unhide b2) hg2 (C.own_base (unhide o2)))⟩
          case measure => simp [intOf]; omega
        · obtain rfl : j = k := by omega
          go_wp2_with fail
          go_ret
          exact ⟨A2, c2, rfl, unhide o2, unhide b2⟩
theorem concat_bss (v : Value) (l : List (List UInt8)) (w : World) (h : Bss w.heap.size w v l) (hn : l.length ≤ 1000) (hL : l.flatten.length ≤ 1000000) :
    Calls Tryz.prog 20 #[v] w fun e w' => ∃ A c, e = .returned (.slice A l.flatten.length c) ∧ OwnB w' w.heap.size (.slice A l.flatten.length c) l.flatten ∧ Below w.heap.size w w' := by
  rcases h.parts with ⟨rfl, A, c, rfl⟩ | ⟨b, off, c, rfl, ht⟩
  · refine (concat_nil A c w).mono ?_
    rintro e w' ⟨rfl, rfl⟩
    exact ⟨none, 0, rfl, World.ownsRow_nil _ _ _ _, Below.refl _ _⟩
  · have := concat_at b off c l w ht hn (by rw [upto_eq]; exact hL)
    rw [upto_eq, cat_eq] at this
    exact this
set_option maxHeartbeats 1000000 in
theorem fit_any (v : Value) (l : List (List UInt8)) (w : World) (h : Bss w.heap.size w v l) (hn : l.length ≤ 1000) (hL : l.flatten.length ≤ 65536) :
    Calls Tryz.prog 19 #[v] w fun e w' => e = .returned (.bool true) ∧ w = w' := by
  rcases h.parts with ⟨rfl, A, c, rfl⟩ | ⟨b, off, c, rfl, ht⟩
  · clear h hn hL
    go_enter Tryz.func19, Tryz.ntmps19
    go_wp2_with fail
    refine wp_loop_rounds 1 ?_
    rw [rounds_succ]
    go_wp2_with fail
    go_ret
    exact ⟨rfl, rfl⟩
  · have hfl := C.flat_le l
    rw [upto_eq] at hfl
    obtain ⟨n, hn'⟩ : ∃ n, n = l.length := ⟨_, rfl⟩
    rw [← hn']
    have hn2 : n ≤ 1000 := by rw [hn']; exact hn
    replace ht := hide ht; replace hn' := hide hn'; replace hfl := hide hfl
    clear h hn
    go_enter Tryz.func19, Tryz.ntmps19
    go_wp2_with fail
    go_loopw [3, 8] (fun s3 s8 wr => ∃ (k : Nat) (R : Int), k ≤ n ∧ s8 = .int .i64 k ∧ s3 = .int .i64 R ∧ Hid (R = 65536 - (C.upto l k : Nat)) ∧ w = wr) (fun _ i _ => n - (intOf i).toNat)
    case atStart => exact ⟨0, 65536, by omega, rfl, rfl, hide (by simp [C.upto]), rfl⟩
    case round =>
      obtain ⟨k, R, hk, rfl, rfl, hR, rfl⟩ := hrel
      by_cases hlt : k < n
      · have hlt' : k < l.length := by rw [← unhide hn']; exact hlt
        obtain ⟨A, c, hc, _⟩ := (unhide ht).at_ k hlt'
        have hbl := (unhide ht).lt
        have ha : C.upto l (k + 1) = C.upto l k + l[k].length := C.upto_succ hlt'
        have hb := unhide hfl (k + 1)
        rw [ha] at hb
        have k1 : ¬ R < (l[k].length : Int) := by rw [unhide hR]; omega
        have k2 : R - (l[k].length : Int) = 65536 - (C.upto l (k + 1) : Nat) := by rw [unhide hR, ha]; omega
        have k3 : (0 : Int) ≤ R - (l[k].length : Int) := by omega
        have k4 : R - (l[k].length : Int) ≤ 65536 := by rw [unhide hR]; omega
        generalize l[k].length = m at *
        replace k2 := hide k2
        clear ha hb
        go_wp2_with fail
        go_roundw
        case rel => exact ⟨k + 1, R - m, by omega, by go_num, by go_num, k2, by simp⟩
        case measure => simp [intOf]; omega
      · obtain rfl : k = n := by omega
        go_wp2_with fail
        go_ret
        exact ⟨rfl, rfl⟩
end Go.Proofs.YthkccpemgmpadaaGreatDoor
