import Derived.Test.YthkccpemgmpadaaDoorM2
import Derived.Laws.BitsAllLaws
import Derived.Lib.SlBytesConst
import Derived.Test.YthkccpemgmpadaaDoorProg
import Derived.WalkKit
import Derived.Handy
import Derived.Lib.SliceRun
import Derived.WalkSpells
import Derived.WalkLawsBesides
import Derived.Lib.Hide
import Derived.Deep.QuietTactic
import Derived.BigQuiet
import Derived.Deep.RegionHeld3
import Derived.Laws.CopyOwn
import Derived.Deep.AppendLies
import Derived.Deep.LoopGhost
import Derived.StillTailTactics
import Derived.Lib.AppendZerosOnto
import Derived.Lib.Bytes
import Derived.Lib.AppendZeros
import Derived.Deep.DeepCutAuto
namespace Go.Proofs.YthkccpemgmpadaaDoor.P
set_option maxRecDepth 100000
open Go.RowKit

theorem put_any (base g gc cc gt ct k : Nat) (b : Bool) (s : Enc) (w : World) (hW : Wrt base g gc cc gt ct w s.c s.span s.low s.text) (hk : k < s.c.length) (h : OkE s) (hl : s.text.length ≤ 1000000) :
    Calls Tryd.prog 56 #[.pointer (some ⟨g, 0, none⟩), .agg #[.int .i64 k, .bool b]] w fun e w' => e = .returned (.tuple #[]) ∧ ∃ gt' ct', Wrt base g gc cc gt' ct' w' (put s ⟨k, b⟩).c (put s ⟨k, b⟩).span (put s ⟨k, b⟩).low (put s ⟨k, b⟩).text ∧ But [g, gc, gt] w w' := by
  cases b
  · exact put_false base g gc cc gt ct k s w hW hk h hl
  · exact put_true base g gc cc gt ct k s w hW hk h hl

set_option maxHeartbeats 4000000 in
/-- 'end'. -/
theorem end_any (base g gc cc gt ct : Nat) (c : List Int) (span low : Int) (text : List Int) (w : World) (hW : Wrt base g gc cc gt ct w c span low text) (hlow : 0 ≤ low ∧ low < 4294967296) (hl : text.length ≤ 1000000) (ht0 : 0 < text.length) :
    Calls Tryd.prog 57 #[.pointer (some ⟨g, 0, none⟩)] w fun e w' => ∃ g' c', e = .returned (.slice (some ⟨g', 0, none⟩) (text.length + 4) c') ∧ w'.ownsRow base 5 1 (.slice (some ⟨g', 0, none⟩) (text.length + 4) c') (text.length + 4) ((text ++ be4 low).flatMap byc) ∧ But [gt] w w' := by
  obtain ⟨hK, hc, ht⟩ := hW
  obtain ⟨i5, hi5, iz0, iz1, iz2⟩ := info5'
  have j1 : IntKind.u8.wrap (low / 16777216) = low / 16777216 := IntWalk.u8_in _ (by omega)
  have j2 : IntKind.u8.wrap (low / 65536) = low / 65536 % 256 := IntKind.wrap_u8 _
  have j3 : IntKind.u8.wrap (low / 256) = low / 256 % 256 := IntKind.wrap_u8 _
  have j4 : IntKind.u8.wrap low = low % 256 := IntKind.wrap_u8 _
  have hbs : base ≤ w.heap.size := by
    obtain ⟨_, cur, e1, h2, hh⟩ := own_pos ht ht0
    have := hh.lt
    omega
  have c2 : w.cell? ⟨g, 2, none⟩ = some (.slice (some ⟨gt, 0, none⟩) text.length ct) := hK.cell 2
  have c3 : w.cell? ⟨g, 3, none⟩ = some (.int .u32 low) := hK.cell 3
  obtain ⟨N, hN⟩ : ∃ N : List Value, N = [.int .u8 (low / 16777216), .int .u8 (low / 65536 % 256), .int .u8 (low / 256 % 256), .int .u8 (low % 256)] := ⟨_, rfl⟩
  have oA := own_drew (ht.alloc (.cells #[.int .u8 (low / 16777216), .int .u8 (low / 65536 % 256), .int .u8 (low / 256 % 256), .int .u8 (low % 256)] 5))
  have sA : SrcOk (w.alloc (.cells #[.int .u8 (low / 16777216), .int .u8 (low / 65536 % 256), .int .u8 (low / 256 % 256), .int .u8 (low % 256)] 5)).drew (some ⟨w.heap.size, 0, none⟩) 4 N := by
    rw [hN]
    exact SrcOk.blk (cur := [.int .u8 (low / 16777216), .int .u8 (low / 65536 % 256), .int .u8 (low / 256 % 256), .int .u8 (low % 256)]) (Blk.drew (Blk.new rfl)) fun j u hu => by simpa using hu
  have s1 : ∀ u ∈ N, u.oneCell' = true := by rw [hN]; intro u hu; simp at hu; rcases hu with rfl | rfl | rfl | rfl <;> rfl
  have sl : N.length = 4 * 1 := by rw [hN]; rfl
  have b1 : text.length + 4 ≤ maxLen := by simp only [maxLen]; omega
  have b2 : (text.length + 4) * 1 ≤ 140737488355328 := by omega
  have b3 : base ≤ (w.alloc (.cells #[.int .u8 (low / 16777216), .int .u8 (low / 65536 % 256), .int .u8 (low / 256 % 256), .int .u8 (low % 256)] 5)).drew.heap.size := by simp; omega
  have hfin : text.flatMap byc ++ N = (text ++ be4 low).flatMap byc := by rw [hN, List.flatMap_append]; rfl
  have hlt : g < w.heap.size := hK.lt
  have KA := (hK.alloc (.cells #[.int .u8 (low / 16777216), .int .u8 (low / 65536 % 256), .int .u8 (low / 256 % 256), .int .u8 (low % 256)] 5)).drew
  have hB := (But.refl [gt] w).alloc (.cells #[.int .u8 (low / 16777216), .int .u8 (low / 65536 % 256), .int .u8 (low / 256 % 256), .int .u8 (low % 256)] 5) |>.drew
  replace KA := hide KA; replace hB := hide hB
  replace oA := hide oA; replace sA := hide sA; replace s1 := hide s1; replace sl := hide sl; replace b1 := hide b1; replace b2 := hide b2; replace b3 := hide b3; replace hfin := hide hfin; replace hN := hide hN
  clear ht hc hK
  go_enter Tryd.func57, Tryd.ntmps57
  go_wp2_with fail
  go_region_held3 (fun W => W.cell? ⟨g, 2, none⟩ = some (.slice (some ⟨gt, 0, none⟩) text.length ct) ∧ W.cell? ⟨g, 3, none⟩ = some (.int .u32 low)) (first | exact ⟨by assumption, by assumption⟩ | exact ⟨by go_simp, by go_simp⟩)
    (first
      | (refine step_app_at rfl (.tmp 6) (.tmp 30) 31 rfl base 5 i5 _ 1 1 Tryd.underlying31 hi5 iz0 iz1 iz2 rfl (Nat.succ_pos _) _ text.length (text.flatMap byc) rfl (unhide oA) (some ⟨w.heap.size, 0, none⟩) 4 4 N rfl (unhide sl) (unhide sA) (unhide s1) (unhide b1) (unhide b2) (unhide b3) ?_
         intro v6 w6 o6 g6 l6
         obtain ⟨A6, ct6, rfl⟩ := ownsRow_form o6
         have K6 := Blk.grown (unhide KA) g6 (own_ne (unhide oA) (unhide KA) (by decide))
         have x2 : w6.cell? ⟨g, 2, none⟩ = some (.slice (some ⟨gt, 0, none⟩) text.length ct) := K6.cell 2
         have x3 : w6.cell? ⟨g, 3, none⟩ = some (.int .u32 low) := K6.cell 3
         clear K6
         replace o6 := hide o6; replace g6 := hide g6; replace l6 := hide l6))
  go_wp2_with fail
  go_ret
  have o7 := unhide o6
  rw [unhide hfin] at o7
  obtain ⟨g7, _, e7, _, _⟩ := own_pos o7 (by omega)
  subst e7
  exact ⟨g7, ct6, rfl, o7, (unhide hB).grown (unhide g6) (fun q hq => .inl (by injection hq with hq; simp [← hq]))⟩
end Go.Proofs.YthkccpemgmpadaaDoor.P

namespace Go.Proofs.YthkccpemgmpadaaDoor.P
set_option maxRecDepth 100000
open Go.RowKit

/-- The place of the first one that is such, from 'k' on; -1, if none is. -/
def firstI {α : Type} (p : α → Bool) : Nat → List α → Int
  | _, [] => -1
  | k, f :: r => if p f then (k : Int) else firstI p (k + 1) r
theorem firstI_any {α : Type} (p : α → Bool) (k : Nat) (l : List α) : decide (0 ≤ firstI p k l) = l.any p := by
  induction l generalizing k with
  | nil => simp [firstI]
  | cons x r ih =>
    rw [firstI]
    cases h : p x
    · simp [h, ih]
    · simp [h]


set_option maxHeartbeats 1000000 in
/-- Encode's closure: is a bit by none of the chances? -/
theorem out_any (x : Bit) (g : Nat) (sv : Value) (A : Option Addr) (n c : Nat) (w : World) (hg : Blk w g 99 #[sv, .slice A n c]) :
    Calls Tryd.prog 54 #[btV x, .pointer (some ⟨g, 0, none⟩)] w fun e w' => e = .returned (.bool (!inB n x)) ∧ Below w.heap.size w w' := by
  obtain ⟨a, b⟩ := x
  have hh := fun W (hb : Below w.heap.size w W) => has_any g n A c a W ((hg.below hb hg.lt).cell 1)
  have y1 := hg.lt
  replace hh := hide hh
  simp only [btV]
  go_enter Tryd.func54, Tryd.ntmps54
  go_wp2_with (go_at_call 55; refine (unhide hh _ (by (repeat (first | with_reducible exact Below.refl _ _ | with_reducible assumption | with_reducible refine Below.drew ?_ | with_reducible refine bl_alloc ?_ _ | with_reducible refine bl_call ?_ (by assumption) | (focus (with_reducible refine Below.setCell ?_ ?_ _; rotate_left; focus (first | omega | (simp <;> omega)))) | fail)))).mono ?_; rintro e w1 ⟨rfl, rfl⟩)
  go_ret
  exact ⟨ret_b rfl (by simp [inB]), by (repeat (first | with_reducible exact Below.refl _ _ | with_reducible assumption | with_reducible refine Below.drew ?_ | with_reducible refine bl_alloc ?_ _ | with_reducible refine bl_call ?_ (by assumption) | (focus (with_reducible refine Below.setCell ?_ ?_ _; rotate_left; focus (first | omega | (simp <;> omega)))) | fail))⟩

set_option maxHeartbeats 1000000 in
theorem index38_any (g : Nat) (sv : Value) (A' : Option Addr) (n c' : Nat) (lo : Nat) (v : Value) (l : List Bit) (w : World) (h : Bts lo w.heap.size w v l) (hg : Blk w g 99 #[sv, .slice A' n c']) :
    Calls Tryd.prog 71 #[v, .func (.func 54) #[] #[.pointer (some ⟨g, 0, none⟩)]] w fun e w' => e = .returned (.int .i64 (firstI (fun x => !inB n x) 0 l)) ∧ Below w.heap.size w w' := by
  obtain ⟨A, c, rfl, h1, h2, h3⟩ := h.open
  have hf := fun x W (hb : Below w.heap.size w W) => out_any x g sv A' n c' W (hg.below hb hg.lt)
  replace h3 := hide h3; replace hf := hide hf; clear h hg
  go_enter Tryd.func71, Tryd.ntmps71
  go_wp2
  go_loopw [8] (fun i wr => ∃ (k : Nat), k ≤ l.length ∧ i = .int .i64 k ∧ Hid (firstI (fun x => !inB n x) 0 l = firstI (fun x => !inB n x) k (l.drop k)) ∧ Hid (Below w.heap.size w wr)) (fun i _ => l.length - (intOf i).toNat)
  case atStart => exact ⟨0, Nat.zero_le _, rfl, hide (by simp), hide (by (repeat (first | with_reducible exact Below.refl _ _ | with_reducible assumption | with_reducible refine Below.drew ?_ | with_reducible refine bl_alloc ?_ _ | with_reducible refine bl_call ?_ (by assumption) | (focus (with_reducible refine Below.setCell ?_ ?_ _; rotate_left; focus (first | omega | (simp <;> omega)))) | fail)))⟩
  case round =>
    obtain ⟨k, hk', rfl, hw, hb⟩ := hrel
    by_cases hlt : k < l.length
    · obtain ⟨b, off, rfl, g1, g2, q0, q1⟩ := unhide h3 k hlt
      have c0 := ((unhide hb).cell (p := ⟨b, off + k * 2, none⟩) g2).trans q0
      have c1 := ((unhide hb).cell (p := ⟨b, off + k * 2 + 1, none⟩) g2).trans q1
      have hd : l.drop k = l[k] :: l.drop (k + 1) := List.drop_eq_getElem_cons hlt
      have hfk := fun W hW => unhide hf l[k] W hW
      generalize l[k] = f at *
      obtain ⟨fa, fl⟩ := f
      simp only [btV] at c0 c1 hfk
      replace hd := hide hd; replace hfk := hide hfk
      clear q0 q1 g1
      cases hp : inB n ⟨fa, fl⟩ with
      | false =>
        go_wp2_with (go_at_call 54; refine (unhide hfk _ (by have hb0 := unhide hb; (repeat (first | with_reducible exact Below.refl _ _ | with_reducible assumption | with_reducible refine Below.drew ?_ | with_reducible refine bl_alloc ?_ _ | with_reducible refine bl_call ?_ (by assumption) | (focus (with_reducible refine Below.setCell ?_ ?_ _; rotate_left; focus (first | omega | (simp <;> omega)))) | fail)))).mono ?_; rintro e w1 ⟨rfl, hb1⟩; rw [hp])
        have hb0 := unhide hb
        go_ret
        refine ⟨ret_i rfl ?_, by (repeat (first | with_reducible exact Below.refl _ _ | with_reducible assumption | with_reducible refine Below.drew ?_ | with_reducible refine bl_alloc ?_ _ | with_reducible refine bl_call ?_ (by assumption) | (focus (with_reducible refine Below.setCell ?_ ?_ _; rotate_left; focus (first | omega | (simp <;> omega)))) | fail))⟩
        rw [unhide hw, unhide hd, firstI, if_pos (by simp [hp])]
      | true =>
        go_wp2_with (go_at_call 54; refine (unhide hfk _ (by have hb0 := unhide hb; (repeat (first | with_reducible exact Below.refl _ _ | with_reducible assumption | with_reducible refine Below.drew ?_ | with_reducible refine bl_alloc ?_ _ | with_reducible refine bl_call ?_ (by assumption) | (focus (with_reducible refine Below.setCell ?_ ?_ _; rotate_left; focus (first | omega | (simp <;> omega)))) | fail)))).mono ?_; rintro e w1 ⟨rfl, hb1⟩; rw [hp])
        have hb0 := unhide hb
        go_roundw
        case rel =>
          refine ⟨k + 1, by omega, by go_num, hide ?_, hide (by (repeat (first | with_reducible exact Below.refl _ _ | with_reducible assumption | with_reducible refine Below.drew ?_ | with_reducible refine bl_alloc ?_ _ | with_reducible refine bl_call ?_ (by assumption) | (focus (with_reducible refine Below.setCell ?_ ?_ _; rotate_left; focus (first | omega | (simp <;> omega)))) | fail)))⟩
          rw [unhide hw, unhide hd, firstI, if_neg (by simp [hp])]
        case measure => simp [intOf]; omega
    · have hb0 := unhide hb
      go_wp2
      go_ret
      refine ⟨ret_i rfl ?_, by (repeat (first | with_reducible exact Below.refl _ _ | with_reducible assumption | with_reducible refine Below.drew ?_ | with_reducible refine bl_alloc ?_ _ | with_reducible refine bl_call ?_ (by assumption) | (focus (with_reducible refine Below.setCell ?_ ?_ _; rotate_left; focus (first | omega | (simp <;> omega)))) | fail))⟩
      rw [unhide hw, List.drop_of_length_le (by omega)]
      rfl

set_option maxHeartbeats 400000 in
theorem contains23_any (g : Nat) (sv : Value) (A' : Option Addr) (n c' : Nat) (lo : Nat) (v : Value) (l : List Bit) (w : World) (h : Bts lo w.heap.size w v l) (hg : Blk w g 99 #[sv, .slice A' n c']) :
    Calls Tryd.prog 53 #[v, .func (.func 54) #[] #[.pointer (some ⟨g, 0, none⟩)]] w fun e w' => e = .returned (.bool (!l.all (inB n))) ∧ Below w.heap.size w w' := by
  have hx := index38_any g sv A' n c' lo v l w h hg
  have hd := firstI_any (fun x => !inB n x) 0 l
  have hd2 : (l.any fun x => !inB n x) = !l.all (inB n) := by rw [List.any_eq_not_all_not]; simp
  rw [hd2] at hd
  obtain ⟨A, c, rfl, h1, h2, h3⟩ := h.open
  clear h h3 hd2
  replace hx := hide hx; replace hd := hide hd
  go_enter Tryd.func53, Tryd.ntmps53
  go_wp2_with (go_at_call 71; refine (unhide hx).mono ?_; rintro e w1 ⟨rfl, hb1⟩)
  go_ret
  exact ⟨ret_b rfl (unhide hd), hb1⟩


theorem own_of_blk {w : World} {g base n : Nat} {l : List Int} (h : Blk w g 3 (l.flatMap ivc).toArray) (hb : base ≤ g) (hn : n = l.length) (hl : l.length ≤ maxLen) : w.ownsRow base 3 1 (.slice (some ⟨g, 0, none⟩) n n) n (l.flatMap ivc) := by
  subst hn
  have := flat_len ivc_len l
  refine ⟨this, .inr ⟨g, l.length, _, rfl, hb, h, Nat.le_refl _, hl, by simpa using this, ?_⟩⟩
  rw [List.take_of_length_le (by simp [this])]

set_option maxHeartbeats 1000000 in
theorem New_own (n : Nat) (hn : n ≤ 1024) (w : World) :
    Calls Tryd.prog 70 #[.int .i64 n] w fun e w' => ∃ g, e = .returned (.tuple #[.slice (some ⟨g, 0, none⟩) n n, .int .i64 0]) ∧ w'.ownsRow w.heap.size 3 1 (.slice (some ⟨g, 0, none⟩) n n) n ((List.replicate n (1024 : Int)).flatMap ivc) ∧ Below w.heap.size w w' := by
  have hR := fun g W hg => repeat_any n hn g W hg
  have k0 : ¬ (n : Int) < 0 := by omega
  have k1 : ¬ (1024 : Int) < (n : Int) := by omega
  replace hR := hide hR
  go_enter Tryd.func70, Tryd.ntmps70
  go_wp2_with (first
    | (go_at_call 83; refine (unhide hR _ _ (Blk.new rfl)).mono ?_; rintro e w1 ⟨g, rfl, hB, hg, hb1⟩; replace hB := hide hB)
    | fail)
  go_ret2
  have hB' := unhide hB
  rw [rep_flat] at hB'
  refine ⟨g, rfl, own_of_blk (l := List.replicate n 1024) hB' ?_ (by simp) (by simp [maxLen]; omega), by (repeat (first | with_reducible exact Below.refl _ _ | with_reducible assumption | with_reducible refine Below.drew ?_ | with_reducible refine bl_alloc ?_ _ | with_reducible refine bl_call ?_ (by assumption) | (focus (with_reducible refine Below.setCell ?_ ?_ _; rotate_left; focus (first | omega | (simp <;> omega)))) | fail))⟩
  simp at hg
  omega

theorem ret_cod {fn : Func} {p u : Tmp} {R : Ending → World → Prop} {a : Act} {w : World} (h : fn.results = #[.cell p 99, .tmp u]) (g : Nat) (x y : Value) (v : Value)
    (hp : a.tmps.getD p undef = .pointer (some ⟨g, 0, none⟩)) (hu : a.tmps.getD u undef = v) (hg : Blk w g 99 #[x, y]) (hd : a.defers = []) (hR : R (.returned (.tuple #[.agg #[x, y], v])) w) : bodyPost Tryd.prog fn R .ret a w := by
  refine bodyPost_ret (v := .tuple #[.agg #[x, y], v]) ?_ hd hR
  rw [results_cell_tmp h, hp, hu]
  have hl := run_loadVar_row (P := Tryd.prog) w g 99 99 #[x, y] (0, 0) _ hg Tryd.underlying99 rfl ((by kernel_rfl : (Tryd.prog.info? 99).map (·.size) = some 2))
  simp [asAddr, Result.andThen, hl]

set_option maxHeartbeats 1000000 in
theorem start_good (n : Nat) (hn : n ≤ 1024) (w : World) :
    Calls Tryd.prog 52 #[.int .i64 n] w fun e w' => ∃ g, e = .returned (.tuple #[.agg #[.int .u32 4294967295, .slice (some ⟨g, 0, none⟩) n n], .int .i64 0]) ∧ w'.ownsRow w.heap.size 3 1 (.slice (some ⟨g, 0, none⟩) n n) n ((List.replicate n (1024 : Int)).flatMap ivc) ∧ Below w.heap.size w w' := by
  have hN := fun W => New_own n hn W
  replace hN := hide hN
  go_enter Tryd.func52, Tryd.ntmps52
  go_wp2_with (first
    | (go_at_call 70; refine (unhide hN _).mono ?_; rintro e w1 ⟨g, rfl, ho, hb1⟩
       have hk := hide (Blk.below (g := w.heap.size) (t := 99) (cs := #[.int .u32 0, .slice none 0 0]) (Blk.new rfl) hb1 (by simp))
       have f0 := (unhide hk).frozen 0; have f1 := (unhide hk).frozen 1; have r0 := (unhide hk).cell 0; have r1 := (unhide hk).cell 1
       simp at r0 r1
       replace ho := hide ho)
    | fail)
  refine ret_cod rfl w.heap.size (.int .u32 4294967295) (.slice (some ⟨g, 0, none⟩) n n) (.int .i64 0) rfl rfl (unhide hk).set2 rfl ⟨g, rfl, ?_, ?_⟩
  · have h3 := ownsRow_mono (unhide ho) (show w.heap.size ≤ _ by simp)
    exact own_far (own_far h3 (unhide hk) (by decide) 0 _) ((unhide hk).set 0 _) (by decide) 1 _
  · (repeat (first | with_reducible exact Below.refl _ _ | with_reducible assumption | with_reducible refine Below.drew ?_ | with_reducible refine bl_alloc ?_ _ | with_reducible refine bl_call ?_ (by assumption) | (focus (with_reducible refine Below.setCell ?_ ?_ _; rotate_left; focus (first | omega | (simp <;> omega)))) | fail))

set_option maxHeartbeats 1000000 in
theorem start_bad (n : Int) (hn : newN n = false) (w : World) :
    Calls Tryd.prog 52 #[.int .i64 n] w fun e w' => e = .returned (.tuple #[.agg #[.int .u32 0, .slice none 0 0], .int .i64 1]) ∧ Below w.heap.size w w' := by
  have hN := fun W => New_bad n hn W
  replace hN := hide hN
  clear hn
  go_enter Tryd.func52, Tryd.ntmps52
  go_wp2_with (first
    | (go_at_call 70; refine (unhide hN _).mono ?_; rintro e w1 ⟨rfl, hb1⟩
       have hk := hide (Blk.below (g := w.heap.size) (t := 99) (cs := #[.int .u32 0, .slice none 0 0]) (Blk.new rfl) hb1 (by simp))
       have f0 := (unhide hk).frozen 0; have f1 := (unhide hk).frozen 1; have r0 := (unhide hk).cell 0; have r1 := (unhide hk).cell 1
       simp at r0 r1)
    | fail)
  refine ret_cod rfl w.heap.size (.int .u32 0) (.slice none 0 0) (.int .i64 1) rfl rfl (unhide hk).set2 rfl ⟨rfl, ?_⟩
  (repeat (first | with_reducible exact Below.refl _ _ | with_reducible assumption | with_reducible refine Below.drew ?_ | with_reducible refine bl_alloc ?_ _ | with_reducible refine bl_call ?_ (by assumption) | (focus (with_reducible refine Below.setCell ?_ ?_ _; rotate_left; focus (first | omega | (simp <;> omega)))) | fail))
end Go.Proofs.YthkccpemgmpadaaDoor.P

namespace Go.Proofs.YthkccpemgmpadaaDoor.P
set_option maxRecDepth 100000
open Go.RowKit

theorem put_len (s : Enc) (x : Bit) : (put s x).text.length ≤ s.text.length + 1 := by
  have := put1_len s x
  unfold put
  split
  · simp [shf, this]
  · omega
theorem putAll_len (s : Enc) (xs : List Bit) : (putAll s xs).text.length ≤ s.text.length + xs.length := by
  induction xs generalizing s with
  | nil => exact Nat.le_refl _
  | cons x r ih =>
    have h1 := ih (put s x)
    have h2 := put_len s x
    show (putAll (put s x) r).text.length ≤ _
    rw [List.length_cons]
    omega
theorem putAll_snoc (s : Enc) {bs : List Bit} {k : Nat} (h : k < bs.length) : putAll s (bs.take (k + 1)) = put (putAll s (bs.take k)) bs[k] := by
  rw [List.take_succ_eq_append_getElem h]
  unfold putAll
  rw [List.foldl_append]
  rfl
section
variable {base g gc cc gt ct : Nat} {w w' : World} {c : List Int} {span low : Int} {text : List Int}
theorem Wrt.alloc (h : Wrt base g gc cc gt ct w c span low text) (o : Obj) : Wrt base g gc cc gt ct (w.alloc o) c span low text := ⟨h.blk.alloc o, h.c.alloc o, h.text.alloc o⟩
theorem Wrt.drew (h : Wrt base g gc cc gt ct w c span low text) : Wrt base g gc cc gt ct w.drew c span low text := ⟨h.blk.drew, own_drew h.c, own_drew h.text⟩
end
theorem own_lt {w : World} {base : Nat} {e : TypeId} {size n c g : Nat} {xs : List Value} (h : w.ownsRow base e size (.slice (some ⟨g, 0, none⟩) n c) n xs) : g < w.heap.size ∧ base ≤ g := by
  rcases h.2 with ⟨h, _⟩ | ⟨g', cap, cur, e', hb, hh, _⟩
  · cases h
  · injection e' with e'
    injection e' with e'
    injection e' with e'
    subst e'
    exact ⟨Blk.lt (t := e) (cs := cur) hh, hb⟩

set_option maxHeartbeats 2000000 in
theorem Encode_bad (n : Int) (hn : newN n = false) (v : Value) (w : World) :
    Calls Tryd.prog 36 #[.int .i64 n, v] w fun e w' => e = .returned (.tuple #[.slice none 0 0, .int .i64 1]) ∧ Below w.heap.size w w' := by
  have hS := fun W => start_bad n hn W
  replace hS := hide hS
  clear hn
  go_enter Tryd.func36, Tryd.ntmps36
  go_wp2_with (first
    | (go_at_call 52; refine (unhide hS _).mono ?_; rintro e w1 ⟨rfl, hb1⟩)
    | fail)
  go_ret2
  exact ⟨rfl, by (repeat (first | with_reducible exact Below.refl _ _ | with_reducible assumption | with_reducible refine Below.drew ?_ | with_reducible refine bl_alloc ?_ _ | with_reducible refine bl_call ?_ (by assumption) | (focus (with_reducible refine Below.setCell ?_ ?_ _; rotate_left; focus (first | omega | (simp <;> omega)))) | fail))⟩

set_option maxHeartbeats 2000000 in
theorem Encode_none (n : Nat) (hn : n ≤ 1024) (lo : Nat) (v : Value) (bs : List Bit) (w : World) (h : Bts lo w.heap.size w v bs) (hl : bs.length ≤ 10000) (hin : bs.all (inB n) = false) :
    Calls Tryd.prog 36 #[.int .i64 n, v] w fun e w' => e = .returned (.tuple #[.slice none 0 0, .int .i64 4]) ∧ Below w.heap.size w w' := by
  have hS := fun W => start_good n hn W
  have hf := fun g sv A c W (hb : Below w.heap.size w W) hg => contains23_any g sv A n c lo v bs W (h.grow hb) hg
  obtain ⟨A, c, rfl, x1, x2, x3⟩ := h.open
  clear h x3
  replace hS := hide hS; replace hf := hide hf; replace hin := hide hin
  go_enter Tryd.func36, Tryd.ntmps36
  go_wp2_with (first
    | (go_at_call 52; refine (unhide hS _).mono ?_; rintro e w1 ⟨g1, rfl, ho, hb1⟩; replace ho := hide ho)
    | (go_at_call 53; refine (unhide hf w1.heap.size (.int .u32 4294967295) (some ⟨g1, 0, none⟩) n _ (by (repeat (first | with_reducible exact Below.refl _ _ | with_reducible assumption | with_reducible refine Below.drew ?_ | with_reducible refine bl_alloc ?_ _ | with_reducible refine bl_call ?_ (by assumption) | (focus (with_reducible refine Below.setCell ?_ ?_ _; rotate_left; focus (first | omega | (simp <;> omega)))) | fail))) (Blk.new rfl)).mono ?_; rintro e w2 ⟨rfl, hb2⟩; rw [unhide hin])
    | fail)
  go_ret2
  exact ⟨rfl, by (repeat (first | with_reducible exact Below.refl _ _ | with_reducible assumption | with_reducible refine Below.drew ?_ | with_reducible refine bl_alloc ?_ _ | with_reducible refine bl_call ?_ (by assumption) | (focus (with_reducible refine Below.setCell ?_ ?_ _; rotate_left; focus (first | omega | (simp <;> omega)))) | fail))⟩
end Go.Proofs.YthkccpemgmpadaaDoor.P

namespace Go.Proofs.YthkccpemgmpadaaDoor.P
set_option maxRecDepth 100000
open Go.RowKit

theorem mk1 (W : World) : (Instr.makeSlice 31 (.int .i64 1) (.int .i64 1)).run Tryd.prog W = .ok (.slice (some ⟨W.heap.size, 0, none⟩) 1 1) (W.alloc (.cells #[.int .u8 0] 5)) := by
  obtain ⟨i5, hi5, iz0, iz1, iz2⟩ := info5'
  have := run_mk (P := Tryd.prog) 31 5 i5 _ 1 Tryd.underlying31 hi5 iz0 iz1 1 (by rw [iz2]; omega) (by omega) W
  have hz : (madeCells (Value.int .u8 0).cells (1 * 1)).toList = List.replicate (1 * 1) (.int .u8 0) := toList_madeCells_one _ _
  have hz' : madeCells (Value.int .u8 0).cells (1 * 1) = #[.int .u8 0] := by rw [← Array.toArray_toList (xs := madeCells (Value.int .u8 0).cells (1 * 1)), hz]; rfl
  rw [hz'] at this
  exact this
theorem own_text {w : World} {base g : Nat} (h : Blk w g 5 #[.int .u8 0]) (hb : base ≤ g) : w.ownsRow base 5 1 (.slice (some ⟨g, 0, none⟩) 1 1) 1 (([0] : List Int).flatMap byc) :=
  ⟨rfl, .inr ⟨g, 1, _, rfl, hb, h, Nat.le_refl _, by simp [maxLen], rfl, rfl⟩⟩
theorem wrA {w : World} {base gc n : Nat} (h : w.ownsRow base 3 1 (.slice (some ⟨gc, 0, none⟩) n n) n ((List.replicate n (1024 : Int)).flatMap ivc)) (hs : base ≤ w.heap.size) :
    Wrt base (w.heap.size + 1) gc n w.heap.size 1 ((w.alloc (.cells #[.int .u8 0] 5)).alloc (.cells #[.int .u32 4294967295, .slice (some ⟨gc, 0, none⟩) n n, .slice (some ⟨w.heap.size, 0, none⟩) 1 1, .int .u32 0] 108)).drew (start0 n).c (start0 n).span (start0 n).low (start0 n).text := by
  have e : (start0 (n : Int)).c = List.replicate n 1024 := by simp [start0]
  refine ⟨?_, ?_, ?_⟩
  · rw [e, List.length_replicate]
    exact (Blk.new (by simp)).drew
  · rw [e, List.length_replicate]
    exact own_drew ((h.alloc _).alloc _)
  · exact own_drew ((own_text (Blk.new rfl) hs).alloc _)
theorem wrB {w : World} {base gc n : Nat} (h : w.ownsRow base 3 1 (.slice (some ⟨gc, 0, none⟩) n n) n ((List.replicate n (1024 : Int)).flatMap ivc)) (hs : base ≤ w.heap.size) :
    Wrt base w.heap.size gc n (w.heap.size + 1) 1 ((w.alloc (.cells #[.int .u32 4294967295, .slice (some ⟨gc, 0, none⟩) n n, .slice (some ⟨w.heap.size + 1, 0, none⟩) 1 1, .int .u32 0] 108)).alloc (.cells #[.int .u8 0] 5)).drew (start0 n).c (start0 n).span (start0 n).low (start0 n).text := by
  have e : (start0 (n : Int)).c = List.replicate n 1024 := by simp [start0]
  refine ⟨?_, ?_, ?_⟩
  · rw [e, List.length_replicate]
    exact ((Blk.new rfl).alloc _).drew
  · rw [e, List.length_replicate]
    exact own_drew ((h.alloc _).alloc _)
  · exact own_drew (own_text (Blk.new (by simp)) (by omega))

set_option maxHeartbeats 4000000 in
theorem Encode_good (n : Nat) (hn : n ≤ 1024) (lo : Nat) (v : Value) (bs : List Bit) (w : World) (h : Bts lo w.heap.size w v bs) (hl : bs.length ≤ 10000) (hin : bs.all (inB n) = true) :
    Calls Tryd.prog 36 #[.int .i64 n, v] w fun e w' => ∃ g c, e = .returned (.tuple #[.slice (some ⟨g, 0, none⟩) (endT (putAll (start0 n) bs)).length c, .int .i64 0]) ∧
      w'.ownsRow w.heap.size 5 1 (.slice (some ⟨g, 0, none⟩) (endT (putAll (start0 n) bs)).length c) (endT (putAll (start0 n) bs)).length ((endT (putAll (start0 n) bs)).flatMap byc) ∧ Below w.heap.size w w' := by
  generalize hTT : endT (putAll (start0 (n : Int)) bs) = T
  replace hTT := hide hTT
  have hS := fun W => start_good n hn W
  have hf := fun g sv A c W (hb : Below w.heap.size w W) hg => contains23_any g sv A n c lo v bs W (h.grow hb) hg
  have hx : ∀ x ∈ bs, inB n x = true := by simpa using hin
  obtain ⟨A, c, rfl, x1, x2, x3⟩ := h.open
  clear h
  replace hS := hide hS; replace hf := hide hf; replace hin := hide hin; replace x3 := hide x3; replace hx := hide hx
  go_enter Tryd.func36, Tryd.ntmps36
  go_wp2_with (first
    | (go_at_call 52; refine (unhide hS _).mono ?_; rintro e w1 ⟨gc, rfl, ho, hb1⟩; replace ho := hide ho)
    | (go_at_call 53; refine (unhide hf w1.heap.size (.int .u32 4294967295) (some ⟨gc, 0, none⟩) n _ (by (repeat (first | with_reducible exact Below.refl _ _ | with_reducible assumption | with_reducible refine Below.drew ?_ | with_reducible refine bl_alloc ?_ _ | with_reducible refine bl_call ?_ (by assumption) | (focus (with_reducible refine Below.setCell ?_ ?_ _; rotate_left; focus (first | omega | (simp <;> omega)))) | fail))) (Blk.new rfl)).mono ?_; rintro e w2 ⟨rfl, hb2⟩; rw [unhide hin])
    | fail)
  have hK6 := (Blk.new (w := w1) (g := w1.heap.size) (t := 99) (cs := #[.int .u32 4294967295, .slice (some ⟨gc, 0, none⟩) n n]) rfl).below hb2 (by simp)
  have ho2 := own_below ((unhide ho).alloc (.cells #[.int .u32 4294967295, .slice (some ⟨gc, 0, none⟩) n n] 99)) hb2 (Nat.le_refl _)
  have hB2 : Below w.heap.size w w2 := by (repeat (first | with_reducible exact Below.refl _ _ | with_reducible assumption | with_reducible refine Below.drew ?_ | with_reducible refine bl_alloc ?_ _ | with_reducible refine bl_call ?_ (by assumption) | (focus (with_reducible refine Below.setCell ?_ ?_ _; rotate_left; focus (first | omega | (simp <;> omega)))) | fail))
  have y0 : w2.cell? ⟨w1.heap.size, 0, none⟩ = some (.int .u32 4294967295) := hK6.cell 0
  have y1 : w2.cell? ⟨w1.heap.size, 1, none⟩ = some (.slice (some ⟨gc, 0, none⟩) n n) := hK6.cell 1
  have y2 := hK6.lt
  generalize w1.heap.size = g6 at *
  replace ho2 := hide ho2; replace hB2 := hide hB2
  clear hb2 ho hb1 hK6
  go_cut [8] (fun s8 wx => ∃ (g gt : Nat), s8 = .pointer (some ⟨g, 0, none⟩) ∧ Hid (Wrt w.heap.size g gc n gt 1 wx (start0 n).c (start0 n).span (start0 n).low (start0 n).text) ∧ Hid (Below w.heap.size w wx) ∧ Hid (w.heap.size ≤ g))
  case first =>
    have hmk := mk1
    go_region_held3 (fun W => W.cell? ⟨g6, 0, none⟩ = some (.int .u32 4294967295) ∧ W.cell? ⟨g6, 1, none⟩ = some (.slice (some ⟨gc, 0, none⟩) n n)) (first | exact ⟨by assumption, by assumption⟩ | exact ⟨by go_simp, by go_simp⟩) (first | fail)
    all_goals
      go_wp2_with fail
      go_meet
      first
        | exact ⟨_, _, rfl, hide (wrA (unhide ho2) (unhide hB2).size), hide (by have hB2' := unhide hB2; (repeat (first | with_reducible exact Below.refl _ _ | with_reducible assumption | with_reducible refine Below.drew ?_ | with_reducible refine bl_alloc ?_ _ | with_reducible refine bl_call ?_ (by assumption) | (focus (with_reducible refine Below.setCell ?_ ?_ _; rotate_left; focus (first | omega | (simp <;> omega)))) | fail))), hide (by have := (unhide hB2).size; omega)⟩
        | exact ⟨_, _, rfl, hide (wrB (unhide ho2) (unhide hB2).size), hide (by have hB2' := unhide hB2; (repeat (first | with_reducible exact Below.refl _ _ | with_reducible assumption | with_reducible refine Below.drew ?_ | with_reducible refine bl_alloc ?_ _ | with_reducible refine bl_call ?_ (by assumption) | (focus (with_reducible refine Below.setCell ?_ ?_ _; rotate_left; focus (first | omega | (simp <;> omega)))) | fail))), hide (by have := (unhide hB2).size; omega)⟩
  case rest =>
    clear y0 y1 y2 ho2 hB2
    obtain ⟨g, gt, rfl, hW, hB, hg⟩ := hcut
    go_wp2_with fail
    go_loopw [30] (fun i wr => ∃ (k : Nat), k ≤ bs.length ∧ i = .int .i64 k ∧ Hid (∃ gt ct, Wrt w.heap.size g gc n gt ct wr (putAll (start0 n) (bs.take k)).c (putAll (start0 n) (bs.take k)).span (putAll (start0 n) (bs.take k)).low (putAll (start0 n) (bs.take k)).text) ∧ Hid (Below w.heap.size w wr)) (fun i _ => bs.length - (intOf i).toNat)
    case atStart => exact ⟨0, Nat.zero_le _, rfl, hide ⟨gt, 1, unhide hW⟩, hB⟩
    case round =>
      clear hW hB
      obtain ⟨k, hk, rfl, hW, hB⟩ := hrel
      obtain ⟨gt, ct, hW⟩ := unhide hW
      have hinv := (putAll_ok (xs := bs.take k) (start_ok (n := n) (by omega)) (by rw [start_c]; exact fun x hxm => unhide hx x (List.mem_of_mem_take hxm))).1
      have hlen : (putAll (start0 n) (bs.take k)).text.length ≤ 1 + k := by
        have := putAll_len (start0 n) (bs.take k)
        have h1 : (start0 (n : Int)).text.length = 1 := rfl
        rw [List.length_take, h1] at this
        omega
      have hcl : (putAll (start0 n) (bs.take k)).c.length = n := by rw [putAll_c, start_c]; simp
      by_cases hlt : k < bs.length
      · obtain ⟨b, off, rfl, g1, g2, q0, q1⟩ := unhide x3 k hlt
        have c0 := ((unhide hB).cell (p := ⟨b, off + k * 2, none⟩) g2).trans q0
        have c1 := ((unhide hB).cell (p := ⟨b, off + k * 2 + 1, none⟩) g2).trans q1
        have hxk := inB_iff.1 (unhide hx bs[k] (List.getElem_mem hlt))
        have hnext := putAll_snoc (start0 n) hlt
        obtain ⟨m, hm⟩ : ∃ m : Nat, bs[k].at_ = (m : Int) := ⟨bs[k].at_.toNat, by omega⟩
        obtain ⟨z, hz⟩ : ∃ z, z = bs[k].b := ⟨_, rfl⟩
        have hbk : bs[k] = ⟨m, z⟩ := by rw [hz, ← hm]
        rw [hm] at c0 hxk
        rw [← hz] at c1
        rw [hbk] at hnext
        generalize putAll (start0 n) (bs.take k) = s at *
        have hP := fun W h => put_any w.heap.size g gc n gt ct m z s W h (by rw [hcl]; omega) hinv.toOkE (by omega)
        rw [← hnext] at hP
        replace hP := hide hP; replace hW := hide hW; replace hnext := hide hnext; replace hbk := hide hbk; replace hz := hide hz
        have hgt := (own_lt (unhide hW).text).2
        have hgc := (own_lt (unhide hW).c).2
        clear q0 q1 hm hinv hlen
        replace hcl := hide hcl; replace hgt := hide hgt; replace hgc := hide hgc
        go_wp2_with (first
          | (go_at_call 56
             refine (unhide hP _ ((unhide hW).alloc _)).mono ?_
             rintro e w7 ⟨rfl, gt', ct', hW7, hB7⟩
             have hB8 : Below w.heap.size w w7 := ((unhide hB).alloc (unhide hB).size _).trans (hB7.below (by
               have h1 := unhide hg; have h2 := unhide hgt; have h3 := unhide hgc
               simp only [List.mem_cons, List.not_mem_nil, or_false]
               rintro q (rfl | rfl | rfl) <;> assumption) (by have := (unhide hB).size; simp; omega))
             replace hW7 := hide hW7; replace hB7 := hide hB7; replace hB8 := hide hB8)
          | fail)
        go_roundw
        case rel => exact ⟨k + 1, by omega, by go_num, hide ⟨gt', ct', unhide hW7⟩, hB8⟩
        case measure => simp [intOf]; omega
      · obtain rfl : k = bs.length := by omega
        rw [List.take_length] at hW hinv hlen
        have hE := fun W h => end_any w.heap.size g gc n gt ct (putAll (start0 n) bs).c (putAll (start0 n) bs).span (putAll (start0 n) bs).low (putAll (start0 n) bs).text W h hinv.low (by omega) hinv.one
        have hgt := (own_lt hW.text).2
        have hfin : (endT (putAll (start0 n) bs)).length = (putAll (start0 n) bs).text.length + 4 := endT_len _
        have hfin2 : (putAll (start0 n) bs).text ++ be4 (putAll (start0 n) bs).low = endT (putAll (start0 n) bs) := rfl
        rw [hfin2, ← hfin, unhide hTT] at hE
        replace hE := hide hE; replace hW := hide hW; replace hgt := hide hgt
        clear hlen hinv hcl hfin hfin2
        go_wp2_with (first
          | (go_at_call 57
             refine (unhide hE _ (unhide hW)).mono ?_
             rintro e w7 ⟨g7, c7, rfl, ho7, hB7⟩
             have hB8 : Below w.heap.size w w7 := (unhide hB).trans (hB7.below (by
               have h2 := unhide hgt
               simp only [List.mem_cons, List.not_mem_nil, or_false]
               rintro q rfl; assumption) (by have := (unhide hB).size; omega))
             replace ho7 := hide ho7; replace hB8 := hide hB8)
          | fail)
        go_ret2
        exact ⟨g7, c7, rfl, unhide ho7, unhide hB8⟩
end Go.Proofs.YthkccpemgmpadaaDoor.P

namespace Go.Proofs.YthkccpemgmpadaaDoor.P
set_option maxRecDepth 100000
open Go.RowKit

theorem or_oct {a b : Int} (ha : 0 ≤ a ∧ a < 16777216) (hb : 0 ≤ b ∧ b < 256) : bits .or .u32 (a * 256) b = a * 256 + b := by
  rw [u32_or _ _ (by omega) (by omega) (by omega) (by omega)]
  have h := Nat.shiftLeft_add_eq_or_of_lt (b := b.toNat) (i := 8) (by omega) a.toNat
  rw [Nat.shiftLeft_eq] at h
  have e : (a * 256).toNat = a.toNat * 2 ^ 8 := by omega
  rw [e, ← h]
  omega

/-- The reader 'g' holds 'r', and the text 't'; its chances and its text are rows of the call's own. -/
structure Rdg (base g gc cc gt ct : Nat) (w : World) (r : Rdr) (t : List Int) : Prop where
  blk : Blk w g 137 #[.int .u32 r.span, .slice (some ⟨gc, 0, none⟩) r.c.length cc, .slice (some ⟨gt, 0, none⟩) t.length ct, .int .i64 r.used, .int .u32 r.code]
  c : w.ownsRow base 3 1 (.slice (some ⟨gc, 0, none⟩) r.c.length cc) r.c.length (r.c.flatMap ivc)
  text : w.ownsRow base 5 1 (.slice (some ⟨gt, 0, none⟩) t.length ct) t.length (t.flatMap byc)

set_option maxHeartbeats 400000 in
theorem Used_nil (w : World) : Calls Tryd.prog 65 #[.pointer none] w fun e w' => e = .returned (.int .i64 0) ∧ w = w' := by
  go_enter Tryd.func65, Tryd.ntmps65
  go_wp2
  go_ret
  exact ⟨rfl, rfl⟩
set_option maxHeartbeats 400000 in
theorem Used_any (g : Nat) (z : Int) (w : World) (h : w.cell? ⟨g, 3, none⟩ = some (.int .i64 z)) : Calls Tryd.prog 65 #[.pointer (some ⟨g, 0, none⟩)] w fun e w' => e = .returned (.int .i64 z) ∧ w = w' := by
  go_enter Tryd.func65, Tryd.ntmps65
  go_wp2
  go_ret
  exact ⟨rfl, rfl⟩
set_option maxHeartbeats 400000 in
theorem Next_nil (i : Int) (w : World) : Calls Tryd.prog 79 #[.pointer none, .int .i64 i] w fun e w' => e = .returned (.tuple #[.bool false, .int .i64 1]) ∧ w = w' := by
  go_enter Tryd.func79, Tryd.ntmps79
  go_wp2
  go_ret2
  exact ⟨rfl, rfl⟩

set_option maxHeartbeats 4000000 in
theorem number_any (a b c d : Int) (ha : 0 ≤ a ∧ a < 256) (hb : 0 ≤ b ∧ b < 256) (hc : 0 ≤ c ∧ c < 256) (hd : 0 ≤ d ∧ d < 256) (w : World) :
    Calls Tryd.prog 78 #[.agg #[.int .u8 a, .int .u8 b, .int .u8 c, .int .u8 d]] w fun e w' => e = .returned (.int .u32 (num [a, b, c, d])) ∧ Below w.heap.size w w' := by
  have n4 : num [a, b, c, d] = ((a * 256 + b) * 256 + c) * 256 + d := by simp [num, numR]; omega
  rw [n4]
  go_enter Tryd.func78, Tryd.ntmps78
  go_wp2
  have o1 := or_oct (a := 0) (b := a) (by omega) ha
  have o2 := or_oct (a := a) (b := b) (by omega) hb
  have o3 := or_oct (a := a * 256 + b) (b := c) (by omega) hc
  have o4 := or_oct (a := (a * 256 + b) * 256 + c) (b := d) (by omega) hd
  rw [Int.zero_mul, Int.zero_add] at o1
  have w1 : IntKind.u32.wrap (a * 256) = a * 256 := IntWalk.u32_in _ (by omega)
  have w2 : IntKind.u32.wrap ((a * 256 + b) * 256) = (a * 256 + b) * 256 := IntWalk.u32_in _ (by omega)
  have w3 : IntKind.u32.wrap (((a * 256 + b) * 256 + c) * 256) = ((a * 256 + b) * 256 + c) * 256 := IntWalk.u32_in _ (by omega)
  have va : IntKind.u32.wrap a = a := IntWalk.u32_in _ (by omega)
  have vb : IntKind.u32.wrap b = b := IntWalk.u32_in _ (by omega)
  have vc : IntKind.u32.wrap c = c := IntWalk.u32_in _ (by omega)
  have vd : IntKind.u32.wrap d = d := IntWalk.u32_in _ (by omega)
  have x0 : ∀ W, (Instr.index 54 (.agg #[.int .u8 a, .int .u8 b, .int .u8 c, .int .u8 d]) (.int .i64 0)).run Tryd.prog W = .ok (.int .u8 a) W := fun W => by kernel_rfl
  have x1 : ∀ W, (Instr.index 54 (.agg #[.int .u8 a, .int .u8 b, .int .u8 c, .int .u8 d]) (.int .i64 1)).run Tryd.prog W = .ok (.int .u8 b) W := fun W => by kernel_rfl
  have x2 : ∀ W, (Instr.index 54 (.agg #[.int .u8 a, .int .u8 b, .int .u8 c, .int .u8 d]) (.int .i64 2)).run Tryd.prog W = .ok (.int .u8 c) W := fun W => by kernel_rfl
  have x3 : ∀ W, (Instr.index 54 (.agg #[.int .u8 a, .int .u8 b, .int .u8 c, .int .u8 d]) (.int .i64 3)).run Tryd.prog W = .ok (.int .u8 d) W := fun W => by kernel_rfl
  clear n4 ha hb hc hd
  go_loopw [3, 7] (fun n i wr => ((i = .int .i64 0 ∧ n = .int .u32 0) ∨ (i = .int .i64 1 ∧ n = .int .u32 a) ∨ (i = .int .i64 2 ∧ n = .int .u32 (a * 256 + b)) ∨ (i = .int .i64 3 ∧ n = .int .u32 ((a * 256 + b) * 256 + c)) ∨ (i = .int .i64 4 ∧ n = .int .u32 (((a * 256 + b) * 256 + c) * 256 + d))) ∧ Hid (Below w.heap.size w wr)) (fun _ i _ => 4 - (intOf i).toNat)
  case atStart => exact ⟨.inl ⟨rfl, rfl⟩, hide (by (repeat (first | with_reducible exact Below.refl _ _ | with_reducible assumption | with_reducible refine Below.drew ?_ | with_reducible refine bl_alloc ?_ _ | with_reducible refine bl_call ?_ (by assumption) | (focus (with_reducible refine Below.setCell ?_ ?_ _; rotate_left; focus (first | omega | (simp <;> omega)))) | fail)))⟩
  case round =>
    obtain ⟨hk, hB⟩ := hrel
    rcases hk with ⟨rfl, rfl⟩ | ⟨rfl, rfl⟩ | ⟨rfl, rfl⟩ | ⟨rfl, rfl⟩ | ⟨rfl, rfl⟩
    · go_wp2_with fail
      go_roundw
      case rel => exact ⟨.inr (.inl ⟨rfl, rfl⟩), hB⟩
      case measure => decide
    · go_wp2_with fail
      go_roundw
      case rel => exact ⟨.inr (.inr (.inl ⟨rfl, rfl⟩)), hB⟩
      case measure => decide
    · go_wp2_with fail
      go_roundw
      case rel => exact ⟨.inr (.inr (.inr (.inl ⟨rfl, rfl⟩))), hB⟩
      case measure => decide
    · go_wp2_with fail
      go_roundw
      case rel => exact ⟨.inr (.inr (.inr (.inr ⟨rfl, rfl⟩))), hB⟩
      case measure => decide
    · go_wp2_with fail
      go_ret
      exact ⟨rfl, unhide hB⟩
end Go.Proofs.YthkccpemgmpadaaDoor.P

namespace Go.Proofs.YthkccpemgmpadaaDoor.P
set_option maxRecDepth 100000
open Go.RowKit

section
variable {base g gc cc gt ct : Nat} {w w' : World} {r : Rdr} {t : List Int}
theorem Rdg.alloc (h : Rdg base g gc cc gt ct w r t) (o : Obj) : Rdg base g gc cc gt ct (w.alloc o) r t := ⟨h.blk.alloc o, h.c.alloc o, h.text.alloc o⟩
theorem Rdg.drew (h : Rdg base g gc cc gt ct w r t) : Rdg base g gc cc gt ct w.drew r t := ⟨h.blk.drew, own_drew h.c, own_drew h.text⟩
theorem Rdg.drewN (h : Rdg base g gc cc gt ct w r t) (n : Nat) : Rdg base g gc cc gt ct (w.drewN n) r t := ⟨h.blk.drewN n, h.c, h.text⟩
theorem Rdg.below (h : Rdg base g gc cc gt ct w r t) (hb : Below w.heap.size w w') : Rdg base g gc cc gt ct w' r t := ⟨h.blk.below hb h.blk.lt, own_below h.c hb (Nat.le_refl _), own_below h.text hb (Nat.le_refl _)⟩
end
/-- An own row's block, and another one's: they differ. -/
theorem own_ne2 {w : World} {base base' : Nat} {e e' : TypeId} {s s' g g' n n' c c' : Nat} {xs xs' : List Value} (h : w.ownsRow base e s (.slice (some ⟨g, 0, none⟩) n c) n xs) (h' : w.ownsRow base' e' s' (.slice (some ⟨g', 0, none⟩) n' c') n' xs') (hne : e ≠ e') : g ≠ g' := by
  intro q
  subst q
  exact own_own h h' hne g rfl rfl

set_option maxHeartbeats 2000000 in
theorem Next_none (base g gc cc gt ct : Nat) (i : Int) (r : Rdr) (t : List Int) (w : World) (hW : Rdg base g gc cc gt ct w r t) (hi : ¬ (0 ≤ i ∧ i < r.c.length)) :
    Calls Tryd.prog 79 #[.pointer (some ⟨g, 0, none⟩), .int .i64 i] w fun e w' => e = .returned (.tuple #[.bool false, .int .i64 4]) ∧ w = w' := by
  have hH := fun W h => has_any g r.c.length (some ⟨gc, 0, none⟩) cc i W h
  have e : (decide (0 ≤ i) && decide (i < r.c.length)) = false := by simp; omega
  rw [e] at hH
  have c1 : w.cell? ⟨g, 1, none⟩ = some (.slice (some ⟨gc, 0, none⟩) r.c.length cc) := hW.blk.cell 1
  clear hi e hW
  replace hH := hide hH
  go_enter Tryd.func79, Tryd.ntmps79
  go_wp2_with (first
    | (go_at_call 55; refine (unhide hH _ c1).mono ?_; rintro e w1 ⟨rfl, rfl⟩)
    | fail)
  go_ret2
  exact ⟨rfl, rfl⟩

set_option maxHeartbeats 4000000 in
theorem Next_true (base g gc cc gt ct k : Nat) (r : Rdr) (t : List Int) (w : World) (hW : Rdg base g gc cc gt ct w r t) (hk : k < r.c.length) (h : OkR r) (ht : okB t) (hl : t.length ≤ 1000000) (hu : r.used ≤ t.length) (hb : bitR r k = true) :
    Calls Tryd.prog 79 #[.pointer (some ⟨g, 0, none⟩), .int .i64 k] w fun e w' => e = .returned (.tuple #[.bool (nextR t r k).1, .int .i64 (nextR t r k).2.2]) ∧ Rdg base g gc cc gt ct w' (nextR t r k).2.1 t ∧ But [g, gc] w w' := by
  have hn := nextR_in (t := t) (r := r) (i := (k : Int)) ⟨by omega, by omega⟩
  obtain ⟨X, hX⟩ : ∃ X, X = nextR t r k := ⟨_, rfl⟩
  rw [← hX]
  obtain ⟨o, ho⟩ : ∃ o, o = t.getD r.used 0 := ⟨_, rfl⟩
  rw [hn, hb, ← ho] at hX
  replace ho := hide ho
  clear hn
  obtain ⟨a1, a2, a3, a4⟩ := half_ok h (i := (k : Int)) (by omega) (by omega)
  have hpo := part_ok h.c (i := (k : Int)) (by omega) (by omega) h.span
  have hx := (own_cell hW.c k hk).trans (ivc_at r.c k hk)
  have hpc := (okC_iff.1 h.c).2 _ (List.getElem_mem hk)
  have hpp : partP r.span r.c (k : Int) = r.span / 2048 * r.c[k] := by unfold partP; rw [Int.toNat_natCast, getD_get hk]
  have hP := fun W (a : W.cell? ⟨g, 0, none⟩ = some (.int .u32 r.span)) (b : W.cell? ⟨g, 1, none⟩ = some (.slice (some ⟨gc, 0, none⟩) r.c.length cc)) (c : W.cell? ⟨gc, k, none⟩ = some (.int .i64 r.c[k])) => part_any g gc r.c.length cc k r.span r.c[k] W a b hk c h.span hpc
  rw [← hpp] at hP
  have hsp := h.span
  have hco := h.code
  have hH := fun W h => has_any g r.c.length (some ⟨gc, 0, none⟩) cc k W h
  have e : (decide (0 ≤ (k : Int)) && decide ((k : Int) < r.c.length)) = true := by simp; omega
  rw [e] at hH
  have hLn := fun W a b => learn_any g gc cc k base r.c true W a hk b h.c
  have hcod : codeR r k = r.code - partP r.span r.c (k : Int) := by unfold codeR; rw [hb]; simp only [if_true]
  have hspn : spanR r k = r.span - partP r.span r.c (k : Int) := by unfold spanR; rw [hb]; simp only [if_true]
  have hdec : decide (partP r.span r.c (k : Int) ≤ r.code) = true := hb
  have hLf : ∀ W, W.cell? ⟨g, 0, none⟩ = some (.int .u32 r.span) → Calls Tryd.prog 74 #[.pointer (some ⟨g, 0, none⟩), .int .u32 (partP r.span r.c (k : Int)), .bool true] W fun e w' => e = .returned (.int .u32 (spanR r k)) ∧ W = w' := fun W a => by rw [hspn]; exact left_any g r.span (partP r.span r.c (k : Int)) true W a (by omega) (by omega)
  have d0 : w.cell? ⟨g, 0, none⟩ = some (.int .u32 r.span) := hW.blk.cell 0
  have d1 : w.cell? ⟨g, 1, none⟩ = some (.slice (some ⟨gc, 0, none⟩) r.c.length cc) := hW.blk.cell 1
  have d2 : w.cell? ⟨g, 2, none⟩ = some (.slice (some ⟨gt, 0, none⟩) t.length ct) := hW.blk.cell 2
  have d3 : w.cell? ⟨g, 3, none⟩ = some (.int .i64 r.used) := hW.blk.cell 3
  have d4 : w.cell? ⟨g, 4, none⟩ = some (.int .u32 r.code) := hW.blk.cell 4
  generalize hS : spanR r k = S at *
  generalize hC : codeR r k = C at *
  have i1 : IntKind.u32.wrap (r.code - partP r.span r.c (k : Int)) = r.code - partP r.span r.c (k : Int) ∨ true = false := by first | exact .inr rfl | exact .inl (IntWalk.u32_in _ (by have := of_decide_eq_true hdec; omega))
  generalize partP r.span r.c (k : Int) = z at *
  generalize r.c[k] = p at *
  clear hpp hpc hb e hS hC hspn
  replace hP := hide hP; replace hH := hide hH; replace hLf := hide hLf; replace hLn := hide hLn; replace hW := hide hW; replace hcod := hide hcod; replace h := hide h; replace ht := hide ht; replace hpo := hide hpo; replace hX := hide hX
  go_enter Tryd.func79, Tryd.ntmps79
  go_wp2_with (first
    | (go_at_call 55; refine (unhide hH _ d1).mono ?_; rintro e w1 ⟨rfl, rfl⟩)
    | (go_at_call 72; refine (unhide hP _ d0 d1 hx).mono ?_; rintro e w1 ⟨rfl, m, hm⟩; replace hm := hide hm)
    | fail)
  have hW1 := (unhide hW).drewN m
  have hB1 := (But.refl [g, gc] w).drewN m
  rw [← unhide hm] at hW1 hB1
  clear hm hW d0 d1 d2 d3 d4 hx
  have d3 : w1.cell? ⟨g, 3, none⟩ = some (.int .i64 r.used) := hW1.blk.cell 3
  have d4 : w1.cell? ⟨g, 4, none⟩ = some (.int .u32 r.code) := hW1.blk.cell 4
  replace hW1 := hide hW1; replace hB1 := hide hB1
  go_quiet (fail)
  have hW2 := (unhide hW1).drewN nq
  have hB2 := (unhide hB1).drewN nq
  generalize w1.drewN nq = w2 at *
  clear hW1 hB1 d3 d4
  have d0 : w2.cell? ⟨g, 0, none⟩ = some (.int .u32 r.span) := hW2.blk.cell 0
  have d2 : w2.cell? ⟨g, 2, none⟩ = some (.slice (some ⟨gt, 0, none⟩) t.length ct) := hW2.blk.cell 2
  replace hW2 := hide hW2; replace hB2 := hide hB2
  have i2 : IntKind.u32.wrap (r.code - z) = r.code - z := by rcases i1 with h | h; exact h; cases h
  clear i1
  go_wp2_with (first
    | (go_at_call 74; refine (unhide hLf _ d0).mono ?_; rintro e w1 ⟨rfl, rfl⟩)
    | fail)
  have hgt := own_ne2 (unhide hW2).text (unhide hW2).c (by decide)
  have hgl := (unhide hW2).blk.lt
  have hg1 : g ≠ gt := fun e => own_not (unhide hW2).text (by decide : (5 : TypeId) ≠ 137) (e ▸ (unhide hW2).blk)
  have hg2 : g ≠ gc := fun e => own_not (unhide hW2).c (by decide : (3 : TypeId) ≠ 137) (e ▸ (unhide hW2).blk)
  replace hgt := hide hgt; replace hg1 := hide hg1; replace hg2 := hide hg2
  clear i2 d0
  go_loopw [7, 8, 10] (fun c u s wr => ((c = .int .u32 C ∧ u = .int .i64 r.used ∧ s = .int .u32 S) ∨ (S < 16777216 ∧ r.used < t.length ∧ c = .int .u32 (C * 256 + o) ∧ u = .int .i64 ((r.used : Int) + 1) ∧ s = .int .u32 (S * 256))) ∧ w2 = wr) (fun _ _ s _ => (4294967296 - intOf s).toNat)
  case atStart => exact ⟨.inl ⟨by rw [unhide hcod], rfl, rfl⟩, rfl⟩
  case round =>
    obtain ⟨hcase, rfl⟩ := hrel
    rcases hcase with ⟨rfl, rfl, rfl⟩ | ⟨hlt, hul, rfl, rfl, rfl⟩
    · by_cases hlt : S < 16777216
      · by_cases hul : r.used < t.length
        · have q0 := (own_cell (unhide hW2).text r.used hul).trans (byc_at t r.used hul)
          have hb8 := (unhide ht) t[r.used] (List.getElem_mem hul)
          have hgd : t.getD r.used 0 = t[r.used] := getD_get hul
          rw [← hgd, ← unhide ho] at q0 hb8
          have j1 := or_oct (a := C) (b := o) (by omega) hb8
          have j2 : IntKind.u32.wrap (C * 256) = C * 256 := IntWalk.u32_in _ (by omega)
          have j3 : IntKind.u32.wrap o = o := IntWalk.u32_in _ (by omega)
          have j4 : IntKind.u32.wrap (S * 256) = S * 256 := IntWalk.u32_in _ (by omega)
          have j5 : IntKind.i64.wrap ((r.used : Int) + 1) = (r.used : Int) + 1 := IntWalk.i64_in _ (by omega)
          have j6 : ((r.used : Int) == (t.length : Int)) = false := by rw [beq_eq_false_iff_ne]; omega
          have j7 : (0 : Int) ≤ (r.used : Int) := by omega
          have j8 : (r.used : Int) < (t.length : Int) := by omega
          clear hb8 hgd
          go_wp2_with fail
          clear j1 j2 j3 j4 j5 j6
          go_roundw
          case rel => exact ⟨.inr ⟨hlt, hul, rfl, rfl, rfl⟩, by first | rfl | trivial⟩
          case measure => simp [intOf]; omega
        · have e : r.used = t.length := by omega
          have j6 : ((r.used : Int) == (t.length : Int)) = true := by rw [e]; simp
          have hX' := unhide hX
          rw [if_pos hlt, if_neg hul] at hX'
          replace hX' := hide hX'
          clear e
          go_wp2_with fail
          go_ret2
          rw [unhide hX']
          exact ⟨rfl, unhide hW2, unhide hB2⟩
      · have hX' := unhide hX
        rw [if_neg hlt] at hX'
        replace hX' := hide hX'
        have K3 := (((unhide hW2).blk.set 4 (.int .u32 C)).set 3 (.int .i64 (r.used : Int))).set 0 (.int .u32 S)
        simp only [List.setIfInBounds_toArray, List.set_cons_succ, List.set_cons_zero] at K3
        have o3 := own_far (own_far (own_far (unhide hW2).c (unhide hW2).blk (by decide) 4 (.int .u32 C)) ((unhide hW2).blk.set 4 _) (by decide) 3 (.int .i64 (r.used : Int))) (((unhide hW2).blk.set 4 _).set 3 _) (by decide) 0 (.int .u32 S)
        have t3 := own_far (own_far (own_far (unhide hW2).text (unhide hW2).blk (by decide) 4 (.int .u32 C)) ((unhide hW2).blk.set 4 _) (by decide) 3 (.int .i64 (r.used : Int))) (((unhide hW2).blk.set 4 _).set 3 _) (by decide) 0 (.int .u32 S)
        have B3 := (((unhide hB2).set (p := ⟨g, 4, none⟩) (by simp) (.int .u32 C)).set (p := ⟨g, 3, none⟩) (by simp) (.int .i64 (r.used : Int))).set (p := ⟨g, 0, none⟩) (by simp) (.int .u32 S)
        have f4 := (unhide hW2).blk.frozen 4
        have f3 := (unhide hW2).blk.frozen 3
        have f0 := (unhide hW2).blk.frozen 0
        have x4 := (unhide hW2).blk.cell 4
        have x3 := (unhide hW2).blk.cell 3
        have x0 := (unhide hW2).blk.cell 0
        simp at x4 x3 x0
        have e1 : (((w2.setCell ⟨g, 4, none⟩ (.int .u32 C)).setCell ⟨g, 3, none⟩ (.int .i64 (r.used : Int))).setCell ⟨g, 0, none⟩ (.int .u32 S)).cell? ⟨g, 1, none⟩ = some (.slice (some ⟨gc, 0, none⟩) r.c.length cc) := K3.cell 1
        replace K3 := hide K3; replace o3 := hide o3; replace t3 := hide t3; replace B3 := hide B3; replace e1 := hide e1
        clear hW2 hB2 d2
        go_wp2_with (first
          | (go_at_call 75; refine (unhide hLn _ (unhide e1) (unhide o3)).mono ?_; rintro e w5 ⟨rfl, r5, B5⟩; replace r5 := hide r5; replace B5 := hide B5)
          | fail)
        go_ret2
        rw [unhide hX']
        have K5 := (unhide K3).but (unhide B5) (by simp [unhide hg2])
        have t5 := own_but (unhide t3) (unhide B5) (fun q hq cs hcs => by
          simp only [List.mem_cons, List.not_mem_nil, or_false] at hq
          subst hq
          exact own_not (unhide o3) (by decide : (3 : TypeId) ≠ 5) hcs)
        exact ⟨rfl, ⟨by rw [stepA_len]; exact K5, by rw [stepA_len]; exact unhide r5, t5⟩, (unhide B3).trans ((unhide B5).mono (by simp))⟩
    · have hge : decide (S * 256 < 16777216) = false := by simp; omega
      have hX' := unhide hX
      rw [if_pos hlt, if_pos hul] at hX'
      replace hX' := hide hX'
      have K3 := (((unhide hW2).blk.set 4 (.int .u32 (C * 256 + o))).set 3 (.int .i64 ((r.used : Int) + 1))).set 0 (.int .u32 (S * 256))
      simp only [List.setIfInBounds_toArray, List.set_cons_succ, List.set_cons_zero] at K3
      have o3 := own_far (own_far (own_far (unhide hW2).c (unhide hW2).blk (by decide) 4 (.int .u32 (C * 256 + o))) ((unhide hW2).blk.set 4 _) (by decide) 3 (.int .i64 ((r.used : Int) + 1))) (((unhide hW2).blk.set 4 _).set 3 _) (by decide) 0 (.int .u32 (S * 256))
      have t3 := own_far (own_far (own_far (unhide hW2).text (unhide hW2).blk (by decide) 4 (.int .u32 (C * 256 + o))) ((unhide hW2).blk.set 4 _) (by decide) 3 (.int .i64 ((r.used : Int) + 1))) (((unhide hW2).blk.set 4 _).set 3 _) (by decide) 0 (.int .u32 (S * 256))
      have B3 := (((unhide hB2).set (p := ⟨g, 4, none⟩) (by simp) (.int .u32 (C * 256 + o))).set (p := ⟨g, 3, none⟩) (by simp) (.int .i64 ((r.used : Int) + 1))).set (p := ⟨g, 0, none⟩) (by simp) (.int .u32 (S * 256))
      have f4 := (unhide hW2).blk.frozen 4
      have f3 := (unhide hW2).blk.frozen 3
      have f0 := (unhide hW2).blk.frozen 0
      have x4 := (unhide hW2).blk.cell 4
      have x3 := (unhide hW2).blk.cell 3
      have x0 := (unhide hW2).blk.cell 0
      simp at x4 x3 x0
      have e1 : (((w2.setCell ⟨g, 4, none⟩ (.int .u32 (C * 256 + o))).setCell ⟨g, 3, none⟩ (.int .i64 ((r.used : Int) + 1))).setCell ⟨g, 0, none⟩ (.int .u32 (S * 256))).cell? ⟨g, 1, none⟩ = some (.slice (some ⟨gc, 0, none⟩) r.c.length cc) := K3.cell 1
      replace K3 := hide K3; replace o3 := hide o3; replace t3 := hide t3; replace B3 := hide B3; replace e1 := hide e1
      clear hW2 hB2 d2
      go_wp2_with (first
        | (go_at_call 75; refine (unhide hLn _ (unhide e1) (unhide o3)).mono ?_; rintro e w5 ⟨rfl, r5, B5⟩; replace r5 := hide r5; replace B5 := hide B5)
        | fail)
      go_ret2
      rw [unhide hX']
      have K5 := (unhide K3).but (unhide B5) (by simp [unhide hg2])
      have t5 := own_but (unhide t3) (unhide B5) (fun q hq cs hcs => by
        simp only [List.mem_cons, List.not_mem_nil, or_false] at hq
        subst hq
        exact own_not (unhide o3) (by decide : (3 : TypeId) ≠ 5) hcs)
      exact ⟨rfl, ⟨by rw [stepA_len]; exact K5, by rw [stepA_len]; exact unhide r5, t5⟩, (unhide B3).trans ((unhide B5).mono (by simp))⟩

set_option maxHeartbeats 4000000 in
theorem Next_false (base g gc cc gt ct k : Nat) (r : Rdr) (t : List Int) (w : World) (hW : Rdg base g gc cc gt ct w r t) (hk : k < r.c.length) (h : OkR r) (ht : okB t) (hl : t.length ≤ 1000000) (hu : r.used ≤ t.length) (hb : bitR r k = false) :
    Calls Tryd.prog 79 #[.pointer (some ⟨g, 0, none⟩), .int .i64 k] w fun e w' => e = .returned (.tuple #[.bool (nextR t r k).1, .int .i64 (nextR t r k).2.2]) ∧ Rdg base g gc cc gt ct w' (nextR t r k).2.1 t ∧ But [g, gc] w w' := by
  have hn := nextR_in (t := t) (r := r) (i := (k : Int)) ⟨by omega, by omega⟩
  obtain ⟨X, hX⟩ : ∃ X, X = nextR t r k := ⟨_, rfl⟩
  rw [← hX]
  obtain ⟨o, ho⟩ : ∃ o, o = t.getD r.used 0 := ⟨_, rfl⟩
  rw [hn, hb, ← ho] at hX
  replace ho := hide ho
  clear hn
  obtain ⟨a1, a2, a3, a4⟩ := half_ok h (i := (k : Int)) (by omega) (by omega)
  have hpo := part_ok h.c (i := (k : Int)) (by omega) (by omega) h.span
  have hx := (own_cell hW.c k hk).trans (ivc_at r.c k hk)
  have hpc := (okC_iff.1 h.c).2 _ (List.getElem_mem hk)
  have hpp : partP r.span r.c (k : Int) = r.span / 2048 * r.c[k] := by unfold partP; rw [Int.toNat_natCast, getD_get hk]
  have hP := fun W (a : W.cell? ⟨g, 0, none⟩ = some (.int .u32 r.span)) (b : W.cell? ⟨g, 1, none⟩ = some (.slice (some ⟨gc, 0, none⟩) r.c.length cc)) (c : W.cell? ⟨gc, k, none⟩ = some (.int .i64 r.c[k])) => part_any g gc r.c.length cc k r.span r.c[k] W a b hk c h.span hpc
  rw [← hpp] at hP
  have hsp := h.span
  have hco := h.code
  have hH := fun W h => has_any g r.c.length (some ⟨gc, 0, none⟩) cc k W h
  have e : (decide (0 ≤ (k : Int)) && decide ((k : Int) < r.c.length)) = true := by simp; omega
  rw [e] at hH
  have hLn := fun W a b => learn_any g gc cc k base r.c false W a hk b h.c
  have hcod : codeR r k = r.code := by unfold codeR; rw [hb]; simp only [Bool.false_eq_true, if_false]
  have hspn : spanR r k = partP r.span r.c (k : Int) := by unfold spanR; rw [hb]; simp only [Bool.false_eq_true, if_false]
  have hdec : decide (partP r.span r.c (k : Int) ≤ r.code) = false := hb
  have hLf : ∀ W, W.cell? ⟨g, 0, none⟩ = some (.int .u32 r.span) → Calls Tryd.prog 74 #[.pointer (some ⟨g, 0, none⟩), .int .u32 (partP r.span r.c (k : Int)), .bool false] W fun e w' => e = .returned (.int .u32 (spanR r k)) ∧ W = w' := fun W a => by rw [hspn]; exact left_any g r.span (partP r.span r.c (k : Int)) false W a (by omega) (by omega)
  have d0 : w.cell? ⟨g, 0, none⟩ = some (.int .u32 r.span) := hW.blk.cell 0
  have d1 : w.cell? ⟨g, 1, none⟩ = some (.slice (some ⟨gc, 0, none⟩) r.c.length cc) := hW.blk.cell 1
  have d2 : w.cell? ⟨g, 2, none⟩ = some (.slice (some ⟨gt, 0, none⟩) t.length ct) := hW.blk.cell 2
  have d3 : w.cell? ⟨g, 3, none⟩ = some (.int .i64 r.used) := hW.blk.cell 3
  have d4 : w.cell? ⟨g, 4, none⟩ = some (.int .u32 r.code) := hW.blk.cell 4
  generalize hS : spanR r k = S at *
  generalize hC : codeR r k = C at *
  have i1 : IntKind.u32.wrap (r.code - partP r.span r.c (k : Int)) = r.code - partP r.span r.c (k : Int) ∨ false = false := by first | exact .inr rfl | exact .inl (IntWalk.u32_in _ (by have := of_decide_eq_true hdec; omega))
  generalize partP r.span r.c (k : Int) = z at *
  generalize r.c[k] = p at *
  clear hpp hpc hb e hS hC hspn
  replace hP := hide hP; replace hH := hide hH; replace hLf := hide hLf; replace hLn := hide hLn; replace hW := hide hW; replace hcod := hide hcod; replace h := hide h; replace ht := hide ht; replace hpo := hide hpo; replace hX := hide hX
  go_enter Tryd.func79, Tryd.ntmps79
  go_wp2_with (first
    | (go_at_call 55; refine (unhide hH _ d1).mono ?_; rintro e w1 ⟨rfl, rfl⟩)
    | (go_at_call 72; refine (unhide hP _ d0 d1 hx).mono ?_; rintro e w1 ⟨rfl, m, hm⟩; replace hm := hide hm)
    | fail)
  have hW1 := (unhide hW).drewN m
  have hB1 := (But.refl [g, gc] w).drewN m
  rw [← unhide hm] at hW1 hB1
  clear hm hW d0 d1 d2 d3 d4 hx
  have d3 : w1.cell? ⟨g, 3, none⟩ = some (.int .i64 r.used) := hW1.blk.cell 3
  have d4 : w1.cell? ⟨g, 4, none⟩ = some (.int .u32 r.code) := hW1.blk.cell 4
  replace hW1 := hide hW1; replace hB1 := hide hB1
  go_quiet (fail)
  have hW2 := (unhide hW1).drewN nq
  have hB2 := (unhide hB1).drewN nq
  generalize w1.drewN nq = w2 at *
  clear hW1 hB1 d3 d4
  have d0 : w2.cell? ⟨g, 0, none⟩ = some (.int .u32 r.span) := hW2.blk.cell 0
  have d2 : w2.cell? ⟨g, 2, none⟩ = some (.slice (some ⟨gt, 0, none⟩) t.length ct) := hW2.blk.cell 2
  replace hW2 := hide hW2; replace hB2 := hide hB2
  clear i1
  have i2 : True := trivial
  go_wp2_with (first
    | (go_at_call 74; refine (unhide hLf _ d0).mono ?_; rintro e w1 ⟨rfl, rfl⟩)
    | fail)
  have hgt := own_ne2 (unhide hW2).text (unhide hW2).c (by decide)
  have hgl := (unhide hW2).blk.lt
  have hg1 : g ≠ gt := fun e => own_not (unhide hW2).text (by decide : (5 : TypeId) ≠ 137) (e ▸ (unhide hW2).blk)
  have hg2 : g ≠ gc := fun e => own_not (unhide hW2).c (by decide : (3 : TypeId) ≠ 137) (e ▸ (unhide hW2).blk)
  replace hgt := hide hgt; replace hg1 := hide hg1; replace hg2 := hide hg2
  clear i2 d0
  go_loopw [7, 8, 10] (fun c u s wr => ((c = .int .u32 C ∧ u = .int .i64 r.used ∧ s = .int .u32 S) ∨ (S < 16777216 ∧ r.used < t.length ∧ c = .int .u32 (C * 256 + o) ∧ u = .int .i64 ((r.used : Int) + 1) ∧ s = .int .u32 (S * 256))) ∧ w2 = wr) (fun _ _ s _ => (4294967296 - intOf s).toNat)
  case atStart => exact ⟨.inl ⟨by rw [unhide hcod], rfl, rfl⟩, rfl⟩
  case round =>
    obtain ⟨hcase, rfl⟩ := hrel
    rcases hcase with ⟨rfl, rfl, rfl⟩ | ⟨hlt, hul, rfl, rfl, rfl⟩
    · by_cases hlt : S < 16777216
      · by_cases hul : r.used < t.length
        · have q0 := (own_cell (unhide hW2).text r.used hul).trans (byc_at t r.used hul)
          have hb8 := (unhide ht) t[r.used] (List.getElem_mem hul)
          have hgd : t.getD r.used 0 = t[r.used] := getD_get hul
          rw [← hgd, ← unhide ho] at q0 hb8
          have j1 := or_oct (a := C) (b := o) (by omega) hb8
          have j2 : IntKind.u32.wrap (C * 256) = C * 256 := IntWalk.u32_in _ (by omega)
          have j3 : IntKind.u32.wrap o = o := IntWalk.u32_in _ (by omega)
          have j4 : IntKind.u32.wrap (S * 256) = S * 256 := IntWalk.u32_in _ (by omega)
          have j5 : IntKind.i64.wrap ((r.used : Int) + 1) = (r.used : Int) + 1 := IntWalk.i64_in _ (by omega)
          have j6 : ((r.used : Int) == (t.length : Int)) = false := by rw [beq_eq_false_iff_ne]; omega
          have j7 : (0 : Int) ≤ (r.used : Int) := by omega
          have j8 : (r.used : Int) < (t.length : Int) := by omega
          clear hb8 hgd
          go_wp2_with fail
          clear j1 j2 j3 j4 j5 j6
          go_roundw
          case rel => exact ⟨.inr ⟨hlt, hul, rfl, rfl, rfl⟩, by first | rfl | trivial⟩
          case measure => simp [intOf]; omega
        · have e : r.used = t.length := by omega
          have j6 : ((r.used : Int) == (t.length : Int)) = true := by rw [e]; simp
          have hX' := unhide hX
          rw [if_pos hlt, if_neg hul] at hX'
          replace hX' := hide hX'
          clear e
          go_wp2_with fail
          go_ret2
          rw [unhide hX']
          exact ⟨rfl, unhide hW2, unhide hB2⟩
      · have hX' := unhide hX
        rw [if_neg hlt] at hX'
        replace hX' := hide hX'
        have K3 := (((unhide hW2).blk.set 4 (.int .u32 C)).set 3 (.int .i64 (r.used : Int))).set 0 (.int .u32 S)
        simp only [List.setIfInBounds_toArray, List.set_cons_succ, List.set_cons_zero] at K3
        have o3 := own_far (own_far (own_far (unhide hW2).c (unhide hW2).blk (by decide) 4 (.int .u32 C)) ((unhide hW2).blk.set 4 _) (by decide) 3 (.int .i64 (r.used : Int))) (((unhide hW2).blk.set 4 _).set 3 _) (by decide) 0 (.int .u32 S)
        have t3 := own_far (own_far (own_far (unhide hW2).text (unhide hW2).blk (by decide) 4 (.int .u32 C)) ((unhide hW2).blk.set 4 _) (by decide) 3 (.int .i64 (r.used : Int))) (((unhide hW2).blk.set 4 _).set 3 _) (by decide) 0 (.int .u32 S)
        have B3 := (((unhide hB2).set (p := ⟨g, 4, none⟩) (by simp) (.int .u32 C)).set (p := ⟨g, 3, none⟩) (by simp) (.int .i64 (r.used : Int))).set (p := ⟨g, 0, none⟩) (by simp) (.int .u32 S)
        have f4 := (unhide hW2).blk.frozen 4
        have f3 := (unhide hW2).blk.frozen 3
        have f0 := (unhide hW2).blk.frozen 0
        have x4 := (unhide hW2).blk.cell 4
        have x3 := (unhide hW2).blk.cell 3
        have x0 := (unhide hW2).blk.cell 0
        simp at x4 x3 x0
        have e1 : (((w2.setCell ⟨g, 4, none⟩ (.int .u32 C)).setCell ⟨g, 3, none⟩ (.int .i64 (r.used : Int))).setCell ⟨g, 0, none⟩ (.int .u32 S)).cell? ⟨g, 1, none⟩ = some (.slice (some ⟨gc, 0, none⟩) r.c.length cc) := K3.cell 1
        replace K3 := hide K3; replace o3 := hide o3; replace t3 := hide t3; replace B3 := hide B3; replace e1 := hide e1
        clear hW2 hB2 d2
        go_wp2_with (first
          | (go_at_call 75; refine (unhide hLn _ (unhide e1) (unhide o3)).mono ?_; rintro e w5 ⟨rfl, r5, B5⟩; replace r5 := hide r5; replace B5 := hide B5)
          | fail)
        go_ret2
        rw [unhide hX']
        have K5 := (unhide K3).but (unhide B5) (by simp [unhide hg2])
        have t5 := own_but (unhide t3) (unhide B5) (fun q hq cs hcs => by
          simp only [List.mem_cons, List.not_mem_nil, or_false] at hq
          subst hq
          exact own_not (unhide o3) (by decide : (3 : TypeId) ≠ 5) hcs)
        exact ⟨rfl, ⟨by rw [stepA_len]; exact K5, by rw [stepA_len]; exact unhide r5, t5⟩, (unhide B3).trans ((unhide B5).mono (by simp))⟩
    · have hge : decide (S * 256 < 16777216) = false := by simp; omega
      have hX' := unhide hX
      rw [if_pos hlt, if_pos hul] at hX'
      replace hX' := hide hX'
      have K3 := (((unhide hW2).blk.set 4 (.int .u32 (C * 256 + o))).set 3 (.int .i64 ((r.used : Int) + 1))).set 0 (.int .u32 (S * 256))
      simp only [List.setIfInBounds_toArray, List.set_cons_succ, List.set_cons_zero] at K3
      have o3 := own_far (own_far (own_far (unhide hW2).c (unhide hW2).blk (by decide) 4 (.int .u32 (C * 256 + o))) ((unhide hW2).blk.set 4 _) (by decide) 3 (.int .i64 ((r.used : Int) + 1))) (((unhide hW2).blk.set 4 _).set 3 _) (by decide) 0 (.int .u32 (S * 256))
      have t3 := own_far (own_far (own_far (unhide hW2).text (unhide hW2).blk (by decide) 4 (.int .u32 (C * 256 + o))) ((unhide hW2).blk.set 4 _) (by decide) 3 (.int .i64 ((r.used : Int) + 1))) (((unhide hW2).blk.set 4 _).set 3 _) (by decide) 0 (.int .u32 (S * 256))
      have B3 := (((unhide hB2).set (p := ⟨g, 4, none⟩) (by simp) (.int .u32 (C * 256 + o))).set (p := ⟨g, 3, none⟩) (by simp) (.int .i64 ((r.used : Int) + 1))).set (p := ⟨g, 0, none⟩) (by simp) (.int .u32 (S * 256))
      have f4 := (unhide hW2).blk.frozen 4
      have f3 := (unhide hW2).blk.frozen 3
      have f0 := (unhide hW2).blk.frozen 0
      have x4 := (unhide hW2).blk.cell 4
      have x3 := (unhide hW2).blk.cell 3
      have x0 := (unhide hW2).blk.cell 0
      simp at x4 x3 x0
      have e1 : (((w2.setCell ⟨g, 4, none⟩ (.int .u32 (C * 256 + o))).setCell ⟨g, 3, none⟩ (.int .i64 ((r.used : Int) + 1))).setCell ⟨g, 0, none⟩ (.int .u32 (S * 256))).cell? ⟨g, 1, none⟩ = some (.slice (some ⟨gc, 0, none⟩) r.c.length cc) := K3.cell 1
      replace K3 := hide K3; replace o3 := hide o3; replace t3 := hide t3; replace B3 := hide B3; replace e1 := hide e1
      clear hW2 hB2 d2
      go_wp2_with (first
        | (go_at_call 75; refine (unhide hLn _ (unhide e1) (unhide o3)).mono ?_; rintro e w5 ⟨rfl, r5, B5⟩; replace r5 := hide r5; replace B5 := hide B5)
        | fail)
      go_ret2
      rw [unhide hX']
      have K5 := (unhide K3).but (unhide B5) (by simp [unhide hg2])
      have t5 := own_but (unhide t3) (unhide B5) (fun q hq cs hcs => by
        simp only [List.mem_cons, List.not_mem_nil, or_false] at hq
        subst hq
        exact own_not (unhide o3) (by decide : (3 : TypeId) ≠ 5) hcs)
      exact ⟨rfl, ⟨by rw [stepA_len]; exact K5, by rw [stepA_len]; exact unhide r5, t5⟩, (unhide B3).trans ((unhide B5).mono (by simp))⟩

end Go.Proofs.YthkccpemgmpadaaDoor.P

namespace Go.Proofs.YthkccpemgmpadaaDoor.P
set_option maxRecDepth 100000
open Go.RowKit

theorem Next_any (base g gc cc gt ct : Nat) (i : Int) (r : Rdr) (t : List Int) (w : World) (hW : Rdg base g gc cc gt ct w r t) (h : OkR r) (ht : okB t) (hl : t.length ≤ 1000000) (hu : r.used ≤ t.length) :
    Calls Tryd.prog 79 #[.pointer (some ⟨g, 0, none⟩), .int .i64 i] w fun e w' => e = .returned (.tuple #[.bool (nextR t r i).1, .int .i64 (nextR t r i).2.2]) ∧ Rdg base g gc cc gt ct w' (nextR t r i).2.1 t ∧ But [g, gc] w w' := by
  by_cases hi : 0 ≤ i ∧ i < r.c.length
  · obtain ⟨k, rfl⟩ : ∃ k : Nat, i = (k : Int) := ⟨i.toNat, by omega⟩
    cases hb : bitR r k
    · exact Next_false base g gc cc gt ct k r t w hW (by omega) h ht hl hu hb
    · exact Next_true base g gc cc gt ct k r t w hW (by omega) h ht hl hu hb
  · have e : nextR t r i = (false, r, 4) := by unfold nextR; rw [if_pos hi]
    rw [e]
    refine (Next_none base g gc cc gt ct i r t w hW hi).mono ?_
    rintro e w' ⟨rfl, rfl⟩
    exact ⟨rfl, hW, But.refl _ _⟩
theorem nextR_used {t : List Int} {r : Rdr} {i : Int} (hu : r.used ≤ t.length) : (nextR t r i).2.1.used ≤ t.length := by
  unfold nextR
  split
  · exact hu
  · split
    · split
      · simp only []; omega
      · exact hu
    · exact hu
theorem nextR_still {t : List Int} {r : Rdr} {i : Int} (h : (nextR t r i).2.2 ≠ 0) : (nextR t r i).2.1 = r ∧ (nextR t r i).1 = false := by
  unfold nextR at *
  split
  · exact ⟨rfl, rfl⟩
  · rename_i h1
    rw [if_neg h1] at h
    split
    · rename_i h2
      rw [if_pos h2] at h
      split
      · rename_i h3
        rw [if_pos h3] at h
        exact absurd rfl h
      · exact ⟨rfl, rfl⟩
    · rename_i h2
      rw [if_neg h2] at h
      exact absurd rfl h

abbrev Os (lo hi : Nat) (w : World) (v : Value) (l : List Int) : Prop := Rd 1 byc lo hi w v l
theorem byc_one : ∀ x, ∀ u ∈ byc x, u.oneCell' = true := by intro x u h; simp [byc] at h; subst h; rfl
theorem Os.open {lo hi : Nat} {w : World} {v : Value} {l : List Int} (h : Os lo hi w v l) : ∃ A c, v = .slice A l.length c ∧ l.length ≤ c ∧ c ≤ 9223372036854775807 ∧
    ∀ i (hi' : i < l.length), ∃ b off, A = some ⟨b, off, none⟩ ∧ lo ≤ b ∧ b < hi ∧ w.cell? ⟨b, off + i, none⟩ = some (.int .u8 l[i]) := by
  obtain ⟨A, c, e, h1, h2, h3⟩ := h.open1
  exact ⟨A, c, e, h1, h2, fun i hi => by obtain ⟨b, off, e, g1, g2, g3⟩ := h3 i hi; exact ⟨b, off, e, g1, g2, g3 _ rfl⟩⟩

set_option maxHeartbeats 400000 in
/-- bytes.Clone of at least one octet. -/
theorem Clone_any (lo : Nat) (v : Value) (l : List Int) (w : World) (h : Os lo w.heap.size w v l) (hL : l.length ≤ 1000000) (h0 : 0 < l.length) :
    Calls Tryd.prog 21 #[v] w fun e w' => ∃ g c, e = .returned (.slice (some ⟨g, 0, none⟩) l.length c) ∧ w'.ownsRow w.heap.size 5 1 (.slice (some ⟨g, 0, none⟩) l.length c) l.length (l.flatMap byc) ∧ Below w.heap.size w w' := by
  obtain ⟨i0, hi0, hz0, hz1, hz2⟩ := info5'
  have h' := h
  obtain ⟨A, c, rfl, h1, h2, h3⟩ := h'
  have hs := Rd.src byc_len h
  obtain ⟨b, off, hA, hrest⟩ := h3 h0
  clear hrest
  clear h h3
  have q23 : ∀ (w : World) (a : Option Addr) (n c : Nat), (binOp .eql 31 (.slice a n c) (.slice none 0 0)).run Tryd.prog w = .ok (.bool a.isNone) w := fun w a n c => Lib.run_eql_slice_nil w _ _ a n c 0 0 Tryd.underlying31
  obtain ⟨xs, hxs⟩ : ∃ xs, xs = l.flatMap byc := ⟨_, rfl⟩
  have hxl : xs.length = l.length * 1 := by rw [hxs, flat_len byc_len]
  have hx1 : ∀ u ∈ xs, u.oneCell' = true := by rw [hxs]; exact flat_one byc_one l
  rw [← hxs] at hs ⊢
  clear hxs
  generalize l.length = n at *
  have HS := hs.2
  have hb1 : 0 + n ≤ maxLen := by simp only [maxLen]; omega
  have hb2 : (0 + n) * 1 ≤ 140737488355328 := by omega
  subst hA
  have hz : w.heap.size ≤ (w.alloc (.cells #[] 5)).heap.size := by simp
  have hSA := HS.below ((Below.refl w.heap.size w).alloc (Nat.le_refl _) (.cells #[] 5))
  replace hxl := hide hxl; replace hx1 := hide hx1; replace hSA := hide hSA; replace hz := hide hz
  clear hs HS
  go_enter Tryd.func21, Tryd.ntmps21
  go_wp2_with (first
    | (at_builtin
       refine wpList_app _ rfl (.tmp 5) (.tmp 6) 31 rfl w.heap.size 5 i0 _ 1 1 Tryd.underlying31 hi0 hz0 hz1 hz2 rfl (Nat.succ_pos _) _ 0 [] rfl (World.ownsRow_lit w #[] 0 (Nat.le_refl _) (Nat.zero_le _) rfl) (some ⟨b, off, none⟩) n c xs rfl (unhide hxl) (unhide hSA) (unhide hx1) hb1 hb2 (unhide hz) ?_
       intro v' w1 hown hg))
  go_ret
  rw [Nat.zero_add, List.nil_append] at hown
  obtain ⟨A', c', rfl⟩ := ownsRow_form hown
  obtain ⟨g', _, e', _, _⟩ := own_pos hown h0
  subst e'
  refine ⟨g', c', rfl, hown, ?_⟩
  refine bl_grown ((Below.refl _ _).alloc (Nat.le_refl _) _) hg ?_
  intro k hk
  simp [Act.eval, Value.ownBlock] at hk
  omega
end Go.Proofs.YthkccpemgmpadaaDoor.P

namespace Go.Proofs.YthkccpemgmpadaaDoor.P
set_option maxRecDepth 100000
open Go.RowKit

theorem elem23 : Tryd.prog.underlying 31 = some (.slice (Tryd.prog.elem 31)) := by kernel_rfl
theorem size5 : ∀ W, (sizeOf (Tryd.prog.elem 31)).run Tryd.prog W = .ok 1 W := fun W => by kernel_rfl
theorem slice_l23 (A : Option Addr) (n c i : Nat) (hi : i ≤ n) (W : World) :
    (Instr.slice 31 (.slice A n c) (some (.int .i64 (i : Int))) none none).run Tryd.prog W = .ok (sliced A i n c 1) W := by
  rw [run_slice_l (P := Tryd.prog) W 31 A n c elem23 .i64 i (by omega) (by omega), size5]
  simp [Result.andThen]

theorem okR_start {n : Int} {t : List Int} (hn : n ≤ 1024) (h : startE n t = 0) (ht : okB t) : OkR (startR n t) := by
  obtain ⟨h1, h2, h3, h4⟩ := startE_iff.1 h
  have hb : okB ((t.drop 1).take 4) := fun x hx => ht x (List.mem_of_mem_drop (List.mem_of_mem_take hx))
  have hl := num_lt hb
  have e : ((t.drop 1).take 4).length = 4 := by simp; omega
  rw [e] at hl
  refine ⟨(start_ok (n := n) hn).c, by simp [startR], ?_⟩
  simp only [startR]
  have : (256 : Int) ^ 4 = 4294967296 := by decide
  omega
theorem take4 {t : List Int} (h : 5 ≤ t.length) : (t.drop 1).take 4 = [t[1], t[2], t[3], t[4]] := by
  match t, h with
  | a :: b :: c :: d :: e :: r, _ => simp

set_option maxHeartbeats 4000000 in
theorem NewReader_good (n : Nat) (hn : n ≤ 1024) (lo : Nat) (v : Value) (t : List Int) (w : World) (hv : Os lo w.heap.size w v t) (ht : okB t) (hl : t.length ≤ 1000000) (h : startE n t = 0) :
    Calls Tryd.prog 63 #[.int .i64 n, v] w fun e w' => ∃ g gc gt ct, e = .returned (.tuple #[.pointer (some ⟨g, 0, none⟩), .int .i64 0]) ∧ Rdg w.heap.size g gc n gt ct w' (startR n t) t ∧ w.heap.size ≤ g ∧ Below w.heap.size w w' := by
  obtain ⟨h1, h5, h3, h4⟩ := startE_iff.1 h
  have hS := fun W => start_good n hn W
  have hC := fun W (hb : Below w.heap.size w W) => Clone_any lo v t W (hv.grow hb) hl (by omega)
  rw [take4 h5] at h4
  have hN := fun W => number_any t[1] t[2] t[3] t[4] (ht _ (List.getElem_mem _)) (ht _ (List.getElem_mem _)) (ht _ (List.getElem_mem _)) (ht _ (List.getElem_mem _)) W
  have hstart : startR n t = ⟨List.replicate n 1024, 4294967295, num [t[1], t[2], t[3], t[4]], 5⟩ := by unfold startR; rw [take4 h5]; simp
  rw [hstart]
  obtain ⟨A, c, rfl, x1, x2, x3⟩ := hv.open
  obtain ⟨b, off, rfl, y1, y2, q0⟩ := x3 0 (by omega)
  have qq : ∀ i (hi : i < t.length), w.cell? ⟨b, off + i, none⟩ = some (.int .u8 t[i]) := fun i hi => by
    obtain ⟨b', off', e, _, _, hc⟩ := x3 i hi
    injection e with e; injection e with e1 e2; subst e1 e2
    exact hc
  have q1 := qq 1 (by omega); have q2 := qq 2 (by omega); have q3 := qq 3 (by omega); have q4 := qq 4 (by omega)
  have e0 : t[0] = 0 := by rw [← getD_get (l := t) (k := 0) (by omega)]; exact h3
  rw [e0, Nat.add_zero] at q0
  have sl := slice_l23 (some ⟨b, off, none⟩) t.length c 1 (by omega)
  unfold sliced at sl
  rw [if_neg (by omega)] at sl
  have hL : 5 ≤ (t.length : Int) := by omega
  have ra : ∀ W, (Instr.arrayAt 54 (.slice (some ⟨b, off + 1, none⟩) (t.length - 1) (c - 1))).run Tryd.prog W = .ok (.pointer (some ⟨b, off + 1, none⟩)) W := fun W => by
    have h4 : ¬ t.length - 1 < 4 := by omega
    simp [Instr.arrayAt, run_underlying Tryd.underlying54, h4]
  generalize num [t[1], t[2], t[3], t[4]] = N at *
  generalize t[1] = o1 at *; generalize t[2] = o2 at *; generalize t[3] = o3 at *; generalize t[4] = o4 at *
  clear x3 qq h h3 hv ht e0
  have hne : (N == 4294967295) = false := by simpa using h4
  replace hS := hide hS; replace hC := hide hC; replace hN := hide hN; replace hstart := hide hstart
  clear h4
  go_enter Tryd.func63, Tryd.ntmps63
  go_wp2_with (first
    | (go_at_call 52; refine (unhide hS _).mono ?_; rintro e w1 ⟨gc, rfl, ho, hb1⟩; replace ho := hide ho; (obtain ⟨hc1, hf1⟩ := bcell hb1; have hz1 := hb1.size; (try have y0 : w.heap.size < w1.heap.size := (by (simp at hz1; omega))); (try have y1 : w.heap.size + 1 < w1.heap.size := (by (simp at hz1; omega))); (try have y2 : w.heap.size + 2 < w1.heap.size := (by (simp at hz1; omega))); (try have y3 : w.heap.size + 3 < w1.heap.size := (by (simp at hz1; omega))); clear hz1); have y9 : b < w1.heap.size := (by have := hb1.size; omega))
    | (go_at_call 78; refine (unhide hN _).mono ?_; rintro e w2 ⟨rfl, hb2⟩)
    | fail)
  have hK6 := (Blk.new (w := w1) (g := w1.heap.size) (t := 99) (cs := #[.int .u32 4294967295, .slice (some ⟨gc, 0, none⟩) n n]) rfl).below hb2 (by simp)
  have ho2 := own_below ((unhide ho).alloc (.cells #[.int .u32 4294967295, .slice (some ⟨gc, 0, none⟩) n n] 99)) hb2 (Nat.le_refl _)
  have hB2 : Below w.heap.size w w2 := by (repeat (first | with_reducible exact Below.refl _ _ | with_reducible assumption | with_reducible refine Below.drew ?_ | with_reducible refine bl_alloc ?_ _ | with_reducible refine bl_call ?_ (by assumption) | (focus (with_reducible refine Below.setCell ?_ ?_ _; rotate_left; focus (first | omega | (simp <;> omega)))) | fail))
  have z0 : w2.cell? ⟨w1.heap.size, 0, none⟩ = some (.int .u32 4294967295) := hK6.cell 0
  have z1 : w2.cell? ⟨w1.heap.size, 1, none⟩ = some (.slice (some ⟨gc, 0, none⟩) n n) := hK6.cell 1
  have z2 := hK6.lt
  generalize w1.heap.size = g6 at *
  replace ho2 := hide ho2; replace hB2 := hide hB2; replace hK6 := hide hK6
  clear hb2 ho hb1 hc1 hf1 y9 q0 q1 q2 q3 q4 ra sl
  go_region_held3 (fun W => W.cell? ⟨g6, 0, none⟩ = some (.int .u32 4294967295) ∧ W.cell? ⟨g6, 1, none⟩ = some (.slice (some ⟨gc, 0, none⟩) n n)) (first | exact ⟨by assumption, by assumption⟩ | exact ⟨by go_simp, by go_simp⟩)
    (first
      | (go_at_call 21; refine (unhide hC w2.drew (unhide hB2).drew).mono ?_; rintro e w3 ⟨gt, ct, rfl, ho3, hb3⟩
         have K7 := (unhide hK6).drew.below hb3 (unhide hK6).lt
         have u0 : w3.cell? ⟨g6, 0, none⟩ = some (.int .u32 4294967295) := K7.cell 0
         have u1 : w3.cell? ⟨g6, 1, none⟩ = some (.slice (some ⟨gc, 0, none⟩) n n) := K7.cell 1
         have r3 := own_below (own_drew (unhide ho2)) hb3 (Nat.le_refl _)
         have B3 : Below w.heap.size w w3 := bl_call (unhide hB2).drew hb3
         replace ho3 := hide ho3; replace r3 := hide r3; replace B3 := hide B3
         have u2 := K7.lt
         have s3 : w.heap.size ≤ w2.drew.heap.size := (unhide hB2).size
         replace s3 := hide s3
         clear K7 hb3))
  all_goals go_wp2_with fail
  all_goals go_ret2
  all_goals exact ⟨w3.heap.size, gc, gt, ct, rfl, ⟨by rw [List.length_replicate]; exact Blk.new rfl, by rw [List.length_replicate]; exact (unhide r3).alloc _, (ownsRow_mono (unhide ho3) (unhide s3)).alloc _⟩, (unhide B3).size, (unhide B3).alloc (unhide B3).size _⟩
end Go.Proofs.YthkccpemgmpadaaDoor.P

namespace Go.Proofs.YthkccpemgmpadaaDoor.P
set_option maxRecDepth 100000
open Go.RowKit

set_option maxHeartbeats 2000000 in
theorem NewReader_arg (n : Int) (hn : newN n = false) (v : Value) (w : World) :
    Calls Tryd.prog 63 #[.int .i64 n, v] w fun e w' => e = .returned (.tuple #[.pointer none, .int .i64 1]) ∧ Below w.heap.size w w' := by
  have hS := fun W => start_bad n hn W
  replace hS := hide hS
  clear hn
  go_enter Tryd.func63, Tryd.ntmps63
  go_wp2_with (first
    | (go_at_call 52; refine (unhide hS _).mono ?_; rintro e w1 ⟨rfl, hb1⟩)
    | fail)
  go_ret2
  exact ⟨rfl, by (repeat (first | with_reducible exact Below.refl _ _ | with_reducible assumption | with_reducible refine Below.drew ?_ | with_reducible refine bl_alloc ?_ _ | with_reducible refine bl_call ?_ (by assumption) | (focus (with_reducible refine Below.setCell ?_ ?_ _; rotate_left; focus (first | omega | (simp <;> omega)))) | fail))⟩

set_option maxHeartbeats 2000000 in
theorem NewReader_few (n : Nat) (hn : n ≤ 1024) (lo : Nat) (v : Value) (t : List Int) (w : World) (hv : Os lo w.heap.size w v t) (h : t.length < 5) :
    Calls Tryd.prog 63 #[.int .i64 n, v] w fun e w' => e = .returned (.tuple #[.pointer none, .int .i64 2]) ∧ Below w.heap.size w w' := by
  have hS := fun W => start_good n hn W
  obtain ⟨A, c, rfl, x1, x2, x3⟩ := hv.open
  clear hv x3
  have h' : (t.length : Int) < 5 := by omega
  replace hS := hide hS
  go_enter Tryd.func63, Tryd.ntmps63
  go_wp2_with (first
    | (go_at_call 52; refine (unhide hS _).mono ?_; rintro e w1 ⟨gc, rfl, ho, hb1⟩; replace ho := hide ho)
    | fail)
  go_ret2
  exact ⟨rfl, by (repeat (first | with_reducible exact Below.refl _ _ | with_reducible assumption | with_reducible refine Below.drew ?_ | with_reducible refine bl_alloc ?_ _ | with_reducible refine bl_call ?_ (by assumption) | (focus (with_reducible refine Below.setCell ?_ ?_ _; rotate_left; focus (first | omega | (simp <;> omega)))) | fail))⟩

set_option maxHeartbeats 2000000 in
theorem NewReader_zero (n : Nat) (hn : n ≤ 1024) (lo : Nat) (v : Value) (t : List Int) (w : World) (hv : Os lo w.heap.size w v t) (h5 : 5 ≤ t.length) (h : t.getD 0 0 ≠ 0) :
    Calls Tryd.prog 63 #[.int .i64 n, v] w fun e w' => e = .returned (.tuple #[.pointer none, .int .i64 2]) ∧ Below w.heap.size w w' := by
  have hS := fun W => start_good n hn W
  obtain ⟨A, c, rfl, x1, x2, x3⟩ := hv.open
  obtain ⟨b, off, rfl, y1, y2, q0⟩ := x3 0 (by omega)
  rw [getD_get (l := t) (k := 0) (by omega)] at h
  rw [Nat.add_zero] at q0
  generalize t[0] = o at *
  clear hv x3
  have h' : (o != 0) = true := by simpa using h
  have hL : 5 ≤ (t.length : Int) := by omega
  replace hS := hide hS
  clear h
  go_enter Tryd.func63, Tryd.ntmps63
  go_wp2_with (first
    | (go_at_call 52; refine (unhide hS _).mono ?_; rintro e w1 ⟨gc, rfl, ho, hb1⟩; replace ho := hide ho; (obtain ⟨hc1, hf1⟩ := bcell hb1; have hz1 := hb1.size; (try have y0 : w.heap.size < w1.heap.size := (by (simp at hz1; omega))); (try have y1 : w.heap.size + 1 < w1.heap.size := (by (simp at hz1; omega))); (try have y2 : w.heap.size + 2 < w1.heap.size := (by (simp at hz1; omega))); (try have y3 : w.heap.size + 3 < w1.heap.size := (by (simp at hz1; omega))); clear hz1); have y9 : b < w1.heap.size := (by have := hb1.size; omega))
    | fail)
  go_ret2
  exact ⟨rfl, by (repeat (first | with_reducible exact Below.refl _ _ | with_reducible assumption | with_reducible refine Below.drew ?_ | with_reducible refine bl_alloc ?_ _ | with_reducible refine bl_call ?_ (by assumption) | (focus (with_reducible refine Below.setCell ?_ ?_ _; rotate_left; focus (first | omega | (simp <;> omega)))) | fail))⟩

set_option maxHeartbeats 4000000 in
theorem NewReader_full (n : Nat) (hn : n ≤ 1024) (lo : Nat) (v : Value) (t : List Int) (w : World) (hv : Os lo w.heap.size w v t) (ht : okB t) (h5 : 5 ≤ t.length) (h3 : t.getD 0 0 = 0) (h4 : num ((t.drop 1).take 4) = 4294967295) :
    Calls Tryd.prog 63 #[.int .i64 n, v] w fun e w' => e = .returned (.tuple #[.pointer none, .int .i64 2]) ∧ Below w.heap.size w w' := by
  have hS := fun W => start_good n hn W
  rw [take4 h5] at h4
  have hN := fun W => number_any t[1] t[2] t[3] t[4] (ht _ (List.getElem_mem _)) (ht _ (List.getElem_mem _)) (ht _ (List.getElem_mem _)) (ht _ (List.getElem_mem _)) W
  obtain ⟨A, c, rfl, x1, x2, x3⟩ := hv.open
  obtain ⟨b, off, rfl, y1, y2, q0⟩ := x3 0 (by omega)
  have qq : ∀ i (hi : i < t.length), w.cell? ⟨b, off + i, none⟩ = some (.int .u8 t[i]) := fun i hi => by
    obtain ⟨b', off', e, _, _, hc⟩ := x3 i hi
    injection e with e; injection e with e1 e2; subst e1 e2
    exact hc
  have q1 := qq 1 (by omega); have q2 := qq 2 (by omega); have q3 := qq 3 (by omega); have q4 := qq 4 (by omega)
  have e0 : t[0] = 0 := by rw [← getD_get (l := t) (k := 0) (by omega)]; exact h3
  rw [e0, Nat.add_zero] at q0
  have sl := slice_l23 (some ⟨b, off, none⟩) t.length c 1 (by omega)
  unfold sliced at sl
  rw [if_neg (by omega)] at sl
  have hL : 5 ≤ (t.length : Int) := by omega
  have ra : ∀ W, (Instr.arrayAt 54 (.slice (some ⟨b, off + 1, none⟩) (t.length - 1) (c - 1))).run Tryd.prog W = .ok (.pointer (some ⟨b, off + 1, none⟩)) W := fun W => by
    have h4 : ¬ t.length - 1 < 4 := by omega
    simp [Instr.arrayAt, run_underlying Tryd.underlying54, h4]
  generalize num [t[1], t[2], t[3], t[4]] = N at *
  generalize t[1] = o1 at *; generalize t[2] = o2 at *; generalize t[3] = o3 at *; generalize t[4] = o4 at *
  clear x3 qq h3 hv ht e0
  rw [h4] at hN
  replace hS := hide hS; replace hN := hide hN
  clear h4
  go_enter Tryd.func63, Tryd.ntmps63
  go_wp2_with (first
    | (go_at_call 52; refine (unhide hS _).mono ?_; rintro e w1 ⟨gc, rfl, ho, hb1⟩; replace ho := hide ho; (obtain ⟨hc1, hf1⟩ := bcell hb1; have hz1 := hb1.size; (try have y0 : w.heap.size < w1.heap.size := (by (simp at hz1; omega))); (try have y1 : w.heap.size + 1 < w1.heap.size := (by (simp at hz1; omega))); (try have y2 : w.heap.size + 2 < w1.heap.size := (by (simp at hz1; omega))); (try have y3 : w.heap.size + 3 < w1.heap.size := (by (simp at hz1; omega))); clear hz1); have y9 : b < w1.heap.size := (by have := hb1.size; omega))
    | (go_at_call 78; refine (unhide hN _).mono ?_; rintro e w2 ⟨rfl, hb2⟩)
    | fail)
  go_ret2
  exact ⟨rfl, by (repeat (first | with_reducible exact Below.refl _ _ | with_reducible assumption | with_reducible refine Below.drew ?_ | with_reducible refine bl_alloc ?_ _ | with_reducible refine bl_call ?_ (by assumption) | (focus (with_reducible refine Below.setCell ?_ ?_ _; rotate_left; focus (first | omega | (simp <;> omega)))) | fail))⟩

theorem NewReader_bad (n : Int) (lo : Nat) (v : Value) (t : List Int) (w : World) (hv : Os lo w.heap.size w v t) (ht : okB t) (h : startE n t ≠ 0) :
    Calls Tryd.prog 63 #[.int .i64 n, v] w fun e w' => e = .returned (.tuple #[.pointer none, .int .i64 (startE n t)]) ∧ Below w.heap.size w w' := by
  cases hn : newN n
  · have e : startE n t = 1 := by unfold startE; rw [if_pos hn]
    rw [e]
    exact NewReader_arg n hn v w
  · have e : startE n t = 2 := by
      unfold startE at h ⊢
      rw [if_neg (by rw [hn]; decide)] at h ⊢
      split
      · rfl
      · rename_i h1
        rw [if_neg h1] at h
        exact absurd rfl h
    have h' : ¬ startE n t = 0 := h
    rw [startE_iff] at h'
    rw [e]
    obtain ⟨n0, n1⟩ := newN_iff.1 hn
    obtain ⟨m, rfl⟩ : ∃ m : Nat, n = (m : Int) := ⟨n.toNat, by omega⟩
    by_cases h5 : t.length < 5
    · exact NewReader_few m (by omega) lo v t w hv h5
    · by_cases h0 : t.getD 0 0 = 0
      · exact NewReader_full m (by omega) lo v t w hv ht (by omega) h0 (Decidable.byContradiction fun hc => h' ⟨hn, by omega, h0, hc⟩)
      · exact NewReader_zero m (by omega) lo v t w hv (by omega) h0
end Go.Proofs.YthkccpemgmpadaaDoor.P

namespace Go.Proofs.YthkccpemgmpadaaDoor.P
set_option maxRecDepth 100000
open Go.RowKit

set_option maxHeartbeats 2000000 in
theorem Rdg.grown {base g gc cc gt ct : Nat} {w w' : World} {r : Rdr} {t : List Int} {base' n : Nat} {e : TypeId} {v : Value} {xs : List Value} (h : Rdg base g gc cc gt ct w r t) (ho : w.ownsRow base' e 1 v n xs) (hg : w.grownBy w' v.ownBlock) (h1 : e ≠ 137) (h2 : 3 ≠ e) (h3 : 5 ≠ e) : Rdg base g gc cc gt ct w' r t :=
  ⟨h.blk.grown hg (own_ne ho h.blk h1), own_grown h.c hg (own_own h.c ho h2), own_grown h.text hg (own_own h.text ho h3)⟩

end Go.Proofs.YthkccpemgmpadaaDoor.P

namespace Go.Proofs.YthkccpemgmpadaaDoor.P
set_option maxRecDepth 100000
open Go.RowKit

theorem Os.convert {lo hi : Nat} {w : World} {v : Value} {l : List Int} (h : Os lo hi w v l) : (convert 31 9 v).run Tryd.prog w = .ok (.string (strOfNums l)) w := by
  obtain ⟨A, c, rfl, h1, h2, h3⟩ := h.open1
  rcases Nat.eq_zero_or_pos l.length with h0 | h0
  · obtain rfl : l = [] := List.eq_nil_of_length_eq_zero h0
    rw [run_convert_bytes_string w 31 9 5 _ _ c Tryd.underlying31 Tryd.underlying5 Tryd.underlying9]
    cases A <;> simp [Conv.bytesToString, loadCells, loadCellsFrom, strOfNums]
    all_goals rfl
  · obtain ⟨b, o, rfl, _, _, _⟩ := h3 0 h0
    exact run_convert_bytes_arg (P := Tryd.prog) w 31 5 Tryd.underlying31 Tryd.underlying5 b o l.length c l rfl (fun i hi => by
      obtain ⟨b', o', e, _, _, hc⟩ := h3 i (by simpa using hi)
      injection e with e; injection e with e1 e2; subst e1 e2
      rw [hc _ rfl]
      simp [List.getD, List.getElem?_eq_getElem (show i < l.length by simpa using hi)]) 9 Tryd.underlying9
theorem bytesOf_inj {a b : List Int} (ha : okB a) (hb : okB b) (h : Lib.bytesOf a = Lib.bytesOf b) : a = b := by
  unfold Lib.bytesOf at h
  induction a generalizing b with
  | nil =>
    cases b with
    | nil => rfl
    | cons y s => simp at h
  | cons x r ih =>
    cases b with
    | nil => simp at h
    | cons y s =>
      rw [List.map_cons, List.map_cons] at h
      injection h with h1 h2
      have hx := ha x (by simp)
      have hy := hb y (by simp)
      have e : x.toNat = y.toNat := by
        have := congrArg UInt8.toNat h1
        simp at this
        omega
      rw [ih (fun z hz => ha z (by simp [hz])) (fun z hz => hb z (by simp [hz])) h2, show x = y by omega]
theorem str_eq {a b : List Int} (ha : okB a) (hb : okB b) : ((strOfNums a).toList == (strOfNums b).toList) = decide (a = b) := by
  rw [Lib.strOfNums_toList, Lib.strOfNums_toList, Bool.eq_iff_iff]
  simp only [beq_iff_eq, decide_eq_true_eq]
  exact ⟨bytesOf_inj ha hb, fun h => by rw [h]⟩

set_option maxHeartbeats 400000 in
/-- The reference's SameBytes. -/
theorem sameBytes_any (lo hi lo' hi' : Nat) (v1 v2 : Value) (a b : List Int) (w : World) (h1 : Os lo hi w v1 a) (h2 : Os lo' hi' w v2 b) (ha : okB a) (hb : okB b) : Calls Tryd.prog 12 #[v1, v2] w fun e w' => e = .returned (.bool (decide (a = b))) ∧ w = w' := by
  have c1 := h1.convert
  have c2 := h2.convert
  have hs := str_eq ha hb
  clear h1 h2 ha hb
  go_enter Tryd.func12, Tryd.ntmps12
  go_wp2
  go_ret
  exact ⟨rfl, rfl⟩

set_option maxHeartbeats 1000000 in
theorem Encode_any (n : Int) (lo : Nat) (v : Value) (bs : List Bit) (w : World) (h : Bts lo w.heap.size w v bs) (hl : bs.length ≤ 10000) :
    Calls Tryd.prog 36 #[.int .i64 n, v] w fun e w' => ∃ A c, e = .returned (.tuple #[.slice A (encT n bs).length c, .int .i64 (encE n bs)]) ∧
      w'.ownsRow w.heap.size 5 1 (.slice A (encT n bs).length c) (encT n bs).length ((encT n bs).flatMap byc) ∧ Below w.heap.size w w' := by
  cases hn : newN n
  · have e : encE n bs = 1 := by unfold encE; rw [if_pos hn]
    have e2 : encT n bs = [] := by unfold encT; rw [if_neg (by rw [e]; decide)]
    rw [e, e2]
    exact (Encode_bad n hn v w).mono fun e w' ⟨he, hb⟩ => ⟨none, 0, he, World.ownsRow_nil _ _ _ _, hb⟩
  · obtain ⟨n0, n1⟩ := newN_iff.1 hn
    obtain ⟨m, rfl⟩ : ∃ m : Nat, n = (m : Int) := ⟨n.toNat, by omega⟩
    cases hin : bs.all (inB m)
    · have e : encE m bs = 4 := by unfold encE; rw [if_neg (by rw [hn]; decide), if_neg (by omega), if_pos (by simpa using hin)]
      have e2 : encT m bs = [] := by unfold encT; rw [if_neg (by rw [e]; decide)]
      rw [e, e2]
      exact (Encode_none m (by omega) lo v bs w h hl hin).mono fun e w' ⟨he, hb⟩ => ⟨none, 0, he, World.ownsRow_nil _ _ _ _, hb⟩
    · have e : encE m bs = 0 := by unfold encE; rw [if_neg (by rw [hn]; decide), if_neg (by omega), if_neg (by simp only [Int.toNat_natCast]; rw [hin]; decide)]
      rw [e, encT_ok e]
      exact (Encode_good m (by omega) lo v bs w h hl hin).mono fun e w' ⟨g, c, he, ho, hb⟩ => ⟨some ⟨g, 0, none⟩, c, he, ho, hb⟩
theorem Os.of_blk {w : World} {g : Nat} {l : List Int} (h : Blk w g 5 (l.flatMap byc).toArray) (hl : l.length ≤ 9223372036854775807) : Os 0 w.heap.size w (.slice (some ⟨g, 0, none⟩) l.length l.length) l := by
  refine ⟨_, _, rfl, Nat.le_refl _, hl, fun _ => ⟨g, 0, rfl, Nat.zero_le _, h.lt, fun i hi j u hu => ?_⟩⟩
  have hj : j < 1 := (List.getElem?_eq_some_iff.1 hu).1
  obtain rfl : j = 0 := by omega
  rw [h.cell, Nat.zero_add]
  have := byc_at l i hi
  simp [byc] at this hu ⊢
  rw [this, hu]
end Go.Proofs.YthkccpemgmpadaaDoor.P

namespace Go.Proofs.YthkccpemgmpadaaDoor.P
set_option maxRecDepth 100000
open Go.RowKit

set_option maxHeartbeats 1000000 in
theorem Is.own {w : World} {base n : Nat} {v : Value} {l : List Int} (h : w.ownsRow base 3 1 v n (l.flatMap ivc)) : Is 0 w.heap.size w v l := (Rd.of_own ivc_len (by omega) h).mono (Nat.zero_le _) (Nat.le_refl _)
theorem Os.own {w : World} {base n : Nat} {v : Value} {l : List Int} (h : w.ownsRow base 5 1 v n (l.flatMap byc)) : Os 0 w.heap.size w v l := (Rd.of_own byc_len (by omega) h).mono (Nat.zero_le _) (Nat.le_refl _)
theorem Bos.own {w : World} {base n : Nat} {v : Value} {l : List Bool} (h : w.ownsRow base 4 1 v n (l.flatMap bvc)) : Bos 0 w.heap.size w v l := (Rd.of_own bvc_len (by omega) h).mono (Nat.zero_le _) (Nat.le_refl _)
end Go.Proofs.YthkccpemgmpadaaDoor.P

namespace Go.Proofs.YthkccpemgmpadaaDoor.P.M
set_option maxRecDepth 100000
open Go.RowKit

/-- A byte's number. -/
def n8 (x : UInt8) : Int := (x.toNat : Int)
theorem n8_inj {x y : UInt8} (h : n8 x = n8 y) : x = y := UInt8.toNat_inj.1 (by unfold n8 at h; omega)
theorem n8_eql (x y : UInt8) : (n8 x == n8 y) = decide (x = y) := by
  rw [Bool.eq_iff_iff]; simp; exact ⟨n8_inj, fun h => by rw [h]⟩
/-- A byte's cell. -/
abbrev u8v (x : UInt8) : Value := .int .u8 (n8 x)

/-- The slice value 'v' reads, in the world 'w', as the bytes 'l'; its block lies from 'lo' on and below 'hi'. -/
def Bs (lo hi : Nat) (w : World) (v : Value) (l : List UInt8) : Prop :=
  ∃ A c, v = .slice A l.length c ∧ l.length ≤ c ∧ c ≤ 9223372036854775807 ∧
    (0 < l.length → ∃ b off, A = some ⟨b, off, none⟩ ∧ lo ≤ b ∧ b < hi ∧ ∀ i (h : i < l.length), w.cell? ⟨b, off + i, none⟩ = some (u8v l[i]))

/-- The two worlds agree on the blocks from 'lo' on and below 'hi'. -/
def Agree (lo hi : Nat) (w w' : World) : Prop := ∀ k, lo ≤ k → k < hi → w'.heap[k]? = w.heap[k]?

theorem Agree.of_below {lo hi B : Nat} {w w' : World} (h : Below B w w') (hb : hi ≤ B) : Agree lo hi w w' := fun k _ hk => h.block k (by omega)
theorem Agree.refl (lo hi : Nat) (w : World) : Agree lo hi w w := fun _ _ _ => rfl

/-- The slice value 'v' reads as the list 'l' of things of 'k' cells each; 'R' tells what the cells of one are. -/
def Sl {α : Type} (k : Nat) (R : World → List Value → α → Prop) (lo hi : Nat) (w : World) (v : Value) (l : List α) : Prop :=
  ∃ A c, v = .slice A l.length c ∧ l.length ≤ c ∧ c ≤ 9223372036854775807 ∧
    (0 < l.length → ∃ b off, A = some ⟨b, off, none⟩ ∧ lo ≤ b ∧ b < hi) ∧
    ∀ b off, A = some ⟨b, off, none⟩ → ∀ i (h : i < l.length), ∃ cs, cs.length = k ∧ (∀ j (hj : j < cs.length), w.cell? ⟨b, off + i * k + j, none⟩ = some cs[j]) ∧ R w cs l[i]

theorem Sl.keep {α : Type} {k : Nat} {R : World → List Value → α → Prop} {lo hi : Nat} {w w' : World} {v : Value} {l : List α} (h : Sl k R lo hi w v l)
    (ha : Agree lo hi w w') (hR : ∀ cs x, R w cs x → R w' cs x) : Sl k R lo hi w' v l := by
  obtain ⟨A, c, rfl, h1, h2, h3, h4⟩ := h
  refine ⟨A, c, rfl, h1, h2, h3, fun b off e i hi => ?_⟩
  obtain ⟨cs, hl, hc, hr⟩ := h4 b off e i hi
  obtain ⟨b', off', e', hb, hb'⟩ := h3 (by omega)
  rw [e] at e'
  injection e' with e'
  injection e' with e1 e2
  subst e1
  exact ⟨cs, hl, fun j hj => (World.cell?_of_block (ha b hb hb')).trans (hc j hj), hR _ _ hr⟩

theorem Sl.mono {α : Type} {k : Nat} {R R' : World → List Value → α → Prop} {lo hi lo' hi' : Nat} {w : World} {v : Value} {l : List α} (h : Sl k R lo hi w v l)
    (h1 : lo' ≤ lo) (h2 : hi ≤ hi') (hR : ∀ cs x, R w cs x → R' w cs x) : Sl k R' lo' hi' w v l := by
  obtain ⟨A, c, rfl, a1, a2, h3, h4⟩ := h
  refine ⟨A, c, rfl, a1, a2, fun h0 => ?_, fun b off e i hi => ?_⟩
  · obtain ⟨b, off, e, hb, hb'⟩ := h3 h0
    exact ⟨b, off, e, by omega, by omega⟩
  · obtain ⟨cs, hl, hc, hr⟩ := h4 b off e i hi
    exact ⟨cs, hl, hc, hR _ _ hr⟩

theorem Bs.keep {lo hi : Nat} {w w' : World} {v : Value} {l : List UInt8} (h : Bs lo hi w v l) (k : Agree lo hi w w') : Bs lo hi w' v l := by
  obtain ⟨A, c, rfl, h1, h2, h3⟩ := h
  refine ⟨A, c, rfl, h1, h2, fun h0 => ?_⟩
  obtain ⟨b, off, rfl, hb, hb', hc⟩ := h3 h0
  exact ⟨b, off, rfl, hb, hb', fun i hi => (World.cell?_of_block (k b hb hb')).trans (hc i hi)⟩

theorem Bs.mono {lo lo' hi hi' : Nat} {w : World} {v : Value} {l : List UInt8} (h : Bs lo hi w v l) (h1 : lo' ≤ lo) (h2 : hi ≤ hi') : Bs lo' hi' w v l := by
  obtain ⟨A, c, rfl, a1, a2, h3⟩ := h
  refine ⟨A, c, rfl, a1, a2, fun h0 => ?_⟩
  obtain ⟨b, off, rfl, hb, hb', hc⟩ := h3 h0
  exact ⟨b, off, rfl, by omega, by omega, hc⟩

theorem Bs.below {lo hi B : Nat} {w w' : World} {v : Value} {l : List UInt8} (h : Bs lo hi w v l) (hb : Below B w w') (hB : hi ≤ B) : Bs lo hi w' v l :=
  h.keep (Agree.of_below hb hB)

theorem bl_alloc {a w : World} (h : Below a.heap.size a w) (o : Obj) : Below a.heap.size a (w.alloc o) := h.alloc h.size o
theorem bl_call {a w w' : World} (h : Below a.heap.size a w) (h' : Below w.heap.size w w') : Below a.heap.size a w' := h.trans (h'.mono h.size)
theorem bl_grown {a w w' : World} {row : Option Nat} (h : Below a.heap.size a w) (hg : w.grownBy w' row) (hr : ∀ k, row = some k → a.heap.size ≤ k) : Below a.heap.size a w' := h.grown hg h.size hr
theorem bcell {W w1 : World} (hb : Below W.heap.size W w1) : (∀ b o, b < W.heap.size → w1.cell? ⟨b, o, none⟩ = W.cell? ⟨b, o, none⟩) ∧ (∀ b o, b < W.heap.size → w1.frozen? ⟨b, o, none⟩ = W.frozen? ⟨b, o, none⟩) :=
  ⟨fun b o h => hb.cell (p := ⟨b, o, none⟩) h, fun b o h => hb.frozen (p := ⟨b, o, none⟩) h⟩
theorem hide {p : Prop} (h : p) : Hid p := h
theorem unhide {p : Prop} (h : Hid p) : p := h
theorem ret_v {v v' : Value} (h : v = v') : Ending.returned v = .returned v' := by rw [h]
theorem ret_b {v : Value} {b b' : Bool} (h : v = .bool b) (e : b = b') : Ending.returned v = .returned (.bool b') := by rw [h, e]
theorem ret_i {v : Value} {k : IntKind} {b b' : Int} (h : v = .int k b) (e : b = b') : Ending.returned v = .returned (.int k b') := by rw [h, e]

/-! ### append onto a row of the call's own, whatever the source -/
/-- A source of an append: where there is an element there is an address with the cells 'news'. -/
def SrcOk (w : World) (A : Option Addr) (m : Nat) (news : List Value) : Prop := 0 < m → ∃ ad, A = some ad ∧ ∀ j u, news[j]? = some u → w.cell? (ad.add j) = some u
theorem SrcOk.below {w w' : World} {A : Option Addr} {m : Nat} {news : List Value} (h : SrcOk w A m news) (hb : Below w.heap.size w w') : SrcOk w' A m news := fun h0 => by
  obtain ⟨ad, e, hc⟩ := h h0
  exact ⟨ad, e, fun j u hu => (hb.cell (World.block_lt_of_cell? w _ (hc j u hu))).trans (hc j u hu)⟩
section
variable {P : Program} (w : World)
theorem run_app (base : Nat) (t ty e : TypeId) (i : TypeInfo) (z : Value) (size bytes : Nat) (ht : P.underlying t = some (.slice e)) (hi : P.info? e = some i) (hz : i.zero = some z)
    (hsize : i.size = size) (hby : i.bytes = bytes) (hzs : z.cells.size = size) (hsz : 0 < size)
    (v : Value) (n : Nat) (xs : List Value) (hown : w.ownsRow base e size v n xs)
    (A : Option Addr) (m c : Nat) (news : List Value) (hl : news.length = m * size) (hr : SrcOk w A m news) (h1 : ∀ u ∈ news, u.oneCell' = true)
    (h63 : n + m ≤ maxLen) (hbytes : (n + m) * bytes ≤ 140737488355328) (hbase : base ≤ w.heap.size) :
    ∃ v' w', (Builtin.append_ #[t, t] ty #[v, .slice A m c]).run P w = .ok v' w' ∧ w'.ownsRow base e size v' (n + m) (xs ++ news) ∧ w.grownBy w' v.ownBlock := by
  rcases Nat.eq_zero_or_pos m with rfl | hm
  · have hn : news = [] := List.eq_nil_of_length_eq_zero (by simpa using hl)
    subst hn
    rcases A with _ | ad
    · refine ⟨v, w, ?_, by simpa using hown, World.grownBy.refl w _⟩
      rcases hown.2 with ⟨rfl, rfl⟩ | ⟨g, cap, cur, rfl, _, _, hnc, _⟩
      · simp [Builtin.append_, run_underlying ht, sizeOf, typeInfo, hi, Builtin.lenOf, Builtin.firstCells]
      · simp [Builtin.append_, run_underlying ht, sizeOf, typeInfo, hi, Builtin.lenOf, Builtin.firstCells, hnc, storeCells]
    · obtain ⟨v', w', a, b, c', _⟩ := run_append_own (P := P) w base t ty e i z size bytes ht hi hz hsize hby hzs hsz v n xs hown ad 0 c [] hl (by simp) h1 h63 hbytes hbase
      exact ⟨v', w', a, b, c'⟩
  · obtain ⟨ad, rfl, hc⟩ := hr hm
    obtain ⟨v', w', a, b, c', _⟩ := run_append_own (P := P) w base t ty e i z size bytes ht hi hz hsize hby hzs hsz v n xs hown ad m c news hl hc h1 h63 hbytes hbase
    exact ⟨v', w', a, b, c'⟩

theorem wp_app {o : Oper} {a : Act} {K : Act → World → Prop} {Q : Exit → Act → World → Prop} (s x : Operand) (t : TypeId)
    (ho : o.op = .call { callee := .builtin .append, args := #[s, x], argTypes := #[t, t] })
    (base : Nat) (e : TypeId) (i : TypeInfo) (z : Value) (size bytes : Nat) (ht : P.underlying t = some (.slice e)) (hi : P.info? e = some i) (hz : i.zero = some z)
    (hsize : i.size = size) (hby : i.bytes = bytes) (hzs : z.cells.size = size) (hsz : 0 < size)
    (v : Value) (n : Nat) (xs : List Value) (hs : a.eval s = v) (hown : w.ownsRow base e size v n xs)
    (A : Option Addr) (m c : Nat) (news : List Value) (hx : a.eval x = .slice A m c) (hl : news.length = m * size) (hr : SrcOk w A m news) (h1 : ∀ u ∈ news, u.oneCell' = true)
    (h63 : n + m ≤ maxLen) (hbytes : (n + m) * bytes ≤ 140737488355328) (hbase : base ≤ w.heap.size)
    (h : ∀ v' w', w'.ownsRow base e size v' (n + m) (xs ++ news) → w.grownBy w' v.ownBlock → K (a.put o.dst v') w') : o.wp P a w K Q := by
  obtain ⟨v', w', hr, h2, h3⟩ := run_app (P := P) w base t o.type e i z size bytes ht hi hz hsize hby hzs hsz v n xs hown A m c news hl hr h1 h63 hbytes hbase
  unfold Oper.wp execOp
  simp only [ho, resolve, invoke, builtin, Sem.run_bind, Sem.run_pure, Result.andThen_ok, List.map_toArray, List.map_cons, List.map_nil, hs, hx, hr]
  exact h v' w' h2 h3

theorem wpList_app {ops : Array Oper} {rest : List Oper} {o : Oper} {a : Act} {Q : Exit → Act → World → Prop} (hgd : o.guard = none) (s x : Operand) (t : TypeId)
    (ho : o.op = .call { callee := .builtin .append, args := #[s, x], argTypes := #[t, t] })
    (base : Nat) (e : TypeId) (i : TypeInfo) (z : Value) (size bytes : Nat) (ht : P.underlying t = some (.slice e)) (hi : P.info? e = some i) (hz : i.zero = some z)
    (hsize : i.size = size) (hby : i.bytes = bytes) (hzs : z.cells.size = size) (hsz : 0 < size)
    (v : Value) (n : Nat) (xs : List Value) (hs : a.eval s = v) (hown : w.ownsRow base e size v n xs)
    (A : Option Addr) (m c : Nat) (news : List Value) (hx : a.eval x = .slice A m c) (hl : news.length = m * size) (hr : SrcOk w A m news) (h1 : ∀ u ∈ news, u.oneCell' = true)
    (h63 : n + m ≤ maxLen) (hbytes : (n + m) * bytes ≤ 140737488355328) (hbase : base ≤ w.heap.size)
    (h : ∀ v' w', w'.ownsRow base e size v' (n + m) (xs ++ news) → w.grownBy w' v.ownBlock → wpList P ops Q rest (a.put o.dst v') w') : wpList P ops Q (o :: rest) a w :=
  wpList_plain hgd fun _ hK => wp_app w s x t ho base e i z size bytes ht hi hz hsize hby hzs hsz v n xs hs hown A m c news hx hl hr h1 h63 hbytes hbase fun v' w' h2 h3 => hK _ _ (h v' w' h2 h3)
end

/-- 'make([]T, n)', for every world. -/
theorem run_mk {P : Program} (t e : TypeId) (i : TypeInfo) (z : Value) (size : Nat) (ht : P.underlying t = some (.slice e)) (hi : P.info? e = some i) (hz : i.zero = some z) (hsize : i.size = size)
    (n : Nat) (hbytes : i.bytes * n ≤ 281474976710656) (h63 : n ≤ 9223372036854775807) (W : World) :
    (Instr.makeSlice t (.int .i64 (n : Int)) (.int .i64 (n : Int))).run P W = .ok (.slice (some ⟨W.heap.size, 0, none⟩) n n) (W.alloc (.cells (madeCells z.cells (n * size)) e)) := by
  subst hsize
  have hb' : (i.bytes : Int) * (n : Int) ≤ 281474976710656 := by
    have h : ((i.bytes * n : Nat) : Int) ≤ 281474976710656 := by omega
    rwa [Int.natCast_mul] at h
  have hr := run_make (P := P) W t e i z ht hi hz .i64 .i64 n n (by omega) (Int.le_refl _) hb' (by omega)
  simp only [Int.toNat_natCast] at hr
  exact hr

/-! ### bytes that the call owns -/
theorem ownsRow_len {w : World} {base : Nat} {e : TypeId} {size : Nat} {v : Value} {n : Nat} {xs : List Value} (h : w.ownsRow base e size v n xs) : xs.length = n * size := h.1

theorem ownsRow_mono {w : World} {base base' : Nat} {e : TypeId} {size : Nat} {v : Value} {n : Nat} {xs : List Value} (h : w.ownsRow base e size v n xs) (hb : base' ≤ base) : w.ownsRow base' e size v n xs := by
  obtain ⟨h1, h2⟩ := h
  refine ⟨h1, ?_⟩
  rcases h2 with h2 | ⟨g, cap, cur, hv, hg, r⟩
  · exact .inl h2
  · exact .inr ⟨g, cap, cur, hv, by omega, r⟩
theorem ownsRow_form {w : World} {base : Nat} {e : TypeId} {size : Nat} {v : Value} {n : Nat} {xs : List Value} (h : w.ownsRow base e size v n xs) : ∃ A c, v = .slice A n c := by
  rcases h.2 with ⟨rfl, rfl⟩ | ⟨g, cap, cur, rfl, _⟩
  · exact ⟨_, _, rfl⟩
  · exact ⟨_, _, rfl⟩
/-- A row of the call's own stays while a cell of a block below its base is written. -/
theorem ownsRow_setCell' {w : World} {base : Nat} {e : TypeId} {size : Nat} {v : Value} {n : Nat} {xs : List Value} (h : w.ownsRow base e size v n xs) {a : Addr} (ha : a.block < base) (u : Value) : (w.setCell a u).ownsRow base e size v n xs :=
  ownsRow_setCell_below h ha u

/-- What the call owns as a row of bytes reads as these bytes. -/
theorem Bs.of_own {w : World} {base : Nat} {e : TypeId} {v : Value} {l : List UInt8} (h : w.ownsRow base e 1 v l.length (l.map u8v)) : Bs base w.heap.size w v l := by
  rcases h.2 with ⟨rfl, h0⟩ | ⟨g, cap, cur, rfl, hb, hg, hnc, hcm, hcs, htake⟩
  · refine ⟨none, 0, by rw [h0], by omega, by omega, fun hp => by omega⟩
  · refine ⟨_, cap, rfl, hnc, by simpa [maxLen] using hcm, fun hp => ⟨g, 0, rfl, hb, ?_, fun i hi => ?_⟩⟩
    · rcases Nat.lt_or_ge g w.heap.size with h1 | h1
      · exact h1
      · rw [Array.getElem?_eq_none h1] at hg; cases hg
    · have hc := World.ownsRow.cellAt (w := w) (base := base) (e := e) (size := 1) (g := g) (n := l.length) (cap := cap) (xs := l.map u8v) h i (by omega)
      rw [Nat.zero_add, hc]
      simp [hi]

theorem u8v_one (x : UInt8) : (u8v x).oneCell' = true := rfl
theorem u8s_one (l : List UInt8) : ∀ u ∈ l.map u8v, u.oneCell' = true := by
  intro u hu
  obtain ⟨x, _, rfl⟩ := List.mem_map.1 hu
  rfl

/-- The cells of a slice that reads as bytes, as an append asks for them. -/
theorem Bs.src {lo hi : Nat} {w : World} {A : Option Addr} {n c : Nat} {l : List UInt8} (h : Bs lo hi w (.slice A n c) l) :
    n = l.length ∧ SrcOk w A n (l.map u8v) := by
  obtain ⟨A', c', e, _, _, h3⟩ := h
  injection e with e1 e2 e3
  subst e1 e2 e3
  refine ⟨rfl, fun h0 => ?_⟩
  obtain ⟨b, off, rfl, _, _, hc⟩ := h3 h0
  refine ⟨_, rfl, fun j u hu => ?_⟩
  rw [List.getElem?_map, Option.map_eq_some_iff] at hu
  obtain ⟨x, hx, rfl⟩ := hu
  obtain ⟨hj, rfl⟩ := List.getElem?_eq_some_iff.1 hx
  have := hc j hj
  unfold Addr.add
  split
  · rename_i h0; subst h0; simpa using this
  · exact this


/-! ### a block that is known whole -/
def Blk (w : World) (g : Nat) (t : TypeId) (cs : Array Value) : Prop := w.heap[g]? = some (.cells cs t (0, 0))
section
variable {w w' : World} {g : Nat} {t : TypeId} {cs : Array Value}
theorem Blk.lt (h : Blk w g t cs) : g < w.heap.size := by
  rcases Nat.lt_or_ge g w.heap.size with h1 | h1
  · exact h1
  · unfold Blk at h; rw [Array.getElem?_eq_none h1] at h; cases h
theorem Blk.cell (h : Blk w g t cs) (i : Nat) : w.cell? ⟨g, i, none⟩ = cs[i]? := cell_of_row w g i cs t (0, 0) h
theorem Blk.frozen (h : Blk w g t cs) (i : Nat) : w.frozen? ⟨g, i, none⟩ = false := frozen_of_row w g i cs t h
theorem Blk.new (hg : g = w.heap.size) : Blk (w.alloc (.cells cs t)) g t cs := by subst hg; exact heap_alloc_new w _
theorem Blk.drew (h : Blk w g t cs) : Blk w.drew g t cs := h
theorem Blk.drewN (h : Blk w g t cs) (n : Nat) : Blk (w.drewN n) g t cs := h
theorem Blk.alloc (h : Blk w g t cs) (o : Obj) : Blk (w.alloc o) g t cs := (Below.heap_alloc w o g h.lt).trans h
theorem Blk.set (h : Blk w g t cs) (i : Nat) (u : Value) : Blk (w.setCell ⟨g, i, none⟩ u) g t (cs.setIfInBounds i u) := heap_setCell_same w g i cs t u h
theorem Blk.far (h : Blk w g t cs) {p : Addr} (hp : g ≠ p.block) (u : Value) : Blk (w.setCell p u) g t cs := (Below.heap_setCell w p u g hp).trans h
theorem Blk.below {B : Nat} (h : Blk w g t cs) (hb : Below B w w') (hg : g < B) : Blk w' g t cs := (hb.block g hg).trans h
theorem Blk.ne_ {g' : Nat} {t' : TypeId} {cs' : Array Value} (h : Blk w g t cs) (h' : Blk w g' t' cs') (hne : t ≠ t') : g ≠ g' := by
  rintro rfl
  unfold Blk at h h'
  rw [h] at h'
  injection h' with h'
  injection h' with _ ht
  exact hne ht
theorem Blk.uniq {cs' : Array Value} (h : Blk w g t cs) (h' : Blk w g t cs') : cs = cs' := by
  unfold Blk at h h'
  rw [h] at h'
  injection h' with h'
  injection h'
end

theorem own_below {w w' : World} {base B : Nat} {e : TypeId} {size : Nat} {v : Value} {n : Nat} {xs : List Value} (h : w.ownsRow base e size v n xs) (hb : Below B w w') (hB : w.heap.size ≤ B) : w'.ownsRow base e size v n xs := by
  obtain ⟨h1, h2⟩ := h
  refine ⟨h1, ?_⟩
  rcases h2 with h2 | ⟨g, cap, cur, hv, hg, hh, r⟩
  · exact .inl h2
  · have hl : g < w.heap.size := Blk.lt (t := e) (cs := cur) hh
    exact .inr ⟨g, cap, cur, hv, hg, (hb.block g (by omega)).trans hh, r⟩
theorem own_far {w : World} {base : Nat} {e : TypeId} {size : Nat} {v : Value} {n : Nat} {xs : List Value} (h : w.ownsRow base e size v n xs) {g : Nat} {t : TypeId} {cs : Array Value} (hg : Blk w g t cs) (hne : e ≠ t) (i : Nat) (u : Value) : (w.setCell ⟨g, i, none⟩ u).ownsRow base e size v n xs := by
  obtain ⟨h1, h2⟩ := h
  refine ⟨h1, ?_⟩
  rcases h2 with h2 | ⟨g', cap, cur, hv, hb, hh, r⟩
  · exact .inl h2
  · have : g' ≠ g := Blk.ne_ (t := e) (cs := cur) hh hg hne
    exact .inr ⟨g', cap, cur, hv, hb, (Below.heap_setCell w ⟨g, i, none⟩ u g' this).trans hh, r⟩


theorem Blk.set3 {w : World} {g : Nat} {t : TypeId} {a b c x y z : Value} (h : Blk w g t #[a, b, c]) : Blk (((w.setCell ⟨g, 0, none⟩ x).setCell ⟨g, 1, none⟩ y).setCell ⟨g, 2, none⟩ z) g t #[x, y, z] := by
  simpa using ((h.set 0 x).set 1 y).set 2 z
theorem Blk.set2 {w : World} {g : Nat} {t : TypeId} {a b x y : Value} (h : Blk w g t #[a, b]) : Blk ((w.setCell ⟨g, 0, none⟩ x).setCell ⟨g, 1, none⟩ y) g t #[x, y] := by
  simpa using (h.set 0 x).set 1 y
theorem own_set3 {w : World} {base : Nat} {e : TypeId} {size : Nat} {v : Value} {n : Nat} {xs : List Value} {g : Nat} {t : TypeId} {a b c x y z : Value} (h : w.ownsRow base e size v n xs) (hg : Blk w g t #[a, b, c]) (hne : e ≠ t) :
    (((w.setCell ⟨g, 0, none⟩ x).setCell ⟨g, 1, none⟩ y).setCell ⟨g, 2, none⟩ z).ownsRow base e size v n xs :=
  own_far (own_far (own_far h hg hne 0 x) (hg.set 0 x) hne 1 y) ((hg.set 0 x).set 1 y) hne 2 z


/-- The block of a slice value lies below 'B'. -/
def VBelow (B : Nat) (v : Value) : Prop := ∀ a n c, v = .slice (some a) n c → a.block < B
theorem own_below2 {w w' : World} {base B : Nat} {e : TypeId} {size : Nat} {v : Value} {n : Nat} {xs : List Value} (h : w.ownsRow base e size v n xs) (hb : Below B w w') (hB : VBelow B v) : w'.ownsRow base e size v n xs := by
  obtain ⟨h1, h2⟩ := h
  refine ⟨h1, ?_⟩
  rcases h2 with h2 | ⟨g, cap, cur, hv, hg, hh, r⟩
  · exact .inl h2
  · exact .inr ⟨g, cap, cur, hv, hg, (hb.block g (hB _ _ _ hv)).trans hh, r⟩
theorem own_vbelow {w : World} {base : Nat} {e : TypeId} {size : Nat} {v : Value} {n : Nat} {xs : List Value} (h : w.ownsRow base e size v n xs) : VBelow w.heap.size v := by
  intro a n' c hv
  rcases h.2 with ⟨h1, _⟩ | ⟨g, cap, cur, h1, _, hh, _⟩
  · rw [h1] at hv; injection hv with hv; cases hv
  · rw [h1] at hv
    injection hv with hv
    injection hv with hv
    subst hv
    exact Blk.lt (t := e) (cs := cur) hh



/-- Only block 'g' has turned. -/
structure Only (g : Nat) (w w' : World) : Prop where
  os : w'.os = w.os
  tape : w'.tape = w.tape
  output : w'.output = w.output
  size : w'.heap.size = w.heap.size
  block : ∀ k, k ≠ g → w'.heap[k]? = w.heap[k]?
theorem Only.below {g B : Nat} {w w' : World} (h : Only g w w') (hB : B ≤ g) : Below B w w' := ⟨h.os, h.tape, h.output, Nat.le_of_eq h.size.symm, fun k hk => h.block k (by omega)⟩


/-! ### tokens -/
/-- A token's three cells. -/
def tkv (t : Tok) : List Value := [u8v t.lit, .int .i64 t.len, .int .i64 t.dist]
/-- A token, by value. -/
abbrev tkV (t : Tok) : Value := .agg #[.int .u8 (n8 t.lit), .int .i64 t.len, .int .i64 t.dist]
def Tks (lo hi : Nat) (w : World) (v : Value) (l : List Tok) : Prop := Sl 3 (fun _ cs f => cs = tkv f) lo hi w v l

theorem Tks.keep {lo hi : Nat} {w w' : World} {v : Value} {l : List Tok} (h : Tks lo hi w v l) (k : Agree lo hi w w') : Tks lo hi w' v l := Sl.keep h k fun _ _ hr => hr
theorem Tks.mono {lo lo' hi hi' : Nat} {w : World} {v : Value} {l : List Tok} (h : Tks lo hi w v l) (h1 : lo' ≤ lo) (h2 : hi ≤ hi') : Tks lo' hi' w v l := Sl.mono h h1 h2 fun _ _ hr => hr
theorem Tks.below {lo hi B : Nat} {w w' : World} {v : Value} {l : List Tok} (h : Tks lo hi w v l) (hb : Below B w w') (hB : hi ≤ B) : Tks lo hi w' v l := h.keep (Agree.of_below hb hB)
/-- .. in a world that has grown. -/
theorem Tks.grow {lo : Nat} {w w' : World} {v : Value} {l : List Tok} (h : Tks lo w.heap.size w v l) (hb : Below w.heap.size w w') : Tks lo w'.heap.size w' v l := (h.below hb (Nat.le_refl _)).mono (Nat.le_refl _) hb.size
theorem Bs.grow {lo : Nat} {w w' : World} {v : Value} {l : List UInt8} (h : Bs lo w.heap.size w v l) (hb : Below w.heap.size w w') : Bs lo w'.heap.size w' v l := (h.below hb (Nat.le_refl _)).mono (Nat.le_refl _) hb.size
theorem Tks.nil (lo hi : Nat) (w : World) : Tks lo hi w (.slice none 0 0) [] := ⟨none, 0, rfl, by simp, by omega, fun h => absurd h (by simp), fun _ _ e => by cases e⟩
theorem Bs.nil (lo hi : Nat) (w : World) : Bs lo hi w (.slice none 0 0) [] := ⟨none, 0, rfl, by simp, by omega, fun h => absurd h (by simp)⟩
/-- The bytes' cells, each by itself. -/
theorem Bs.open {lo hi : Nat} {w : World} {v : Value} {l : List UInt8} (h : Bs lo hi w v l) : ∃ A c, v = .slice A l.length c ∧ l.length ≤ c ∧ c ≤ 9223372036854775807 ∧
    ∀ i, i < l.length → ∃ b off, A = some ⟨b, off, none⟩ ∧ lo ≤ b ∧ b < hi ∧ w.cell? ⟨b, off + i, none⟩ = some (.int .u8 (n8 (l.getD i 0))) := by
  obtain ⟨A, c, rfl, h1, h2, h3⟩ := h
  refine ⟨A, c, rfl, h1, h2, fun i hi => ?_⟩
  obtain ⟨b, off, rfl, g1, g2, g3⟩ := h3 (by omega)
  refine ⟨b, off, rfl, g1, g2, ?_⟩
  rw [g3 i hi, List.getD_eq_getElem?_getD, List.getElem?_eq_getElem hi]; rfl

/-- The slice's parts and the cells of each. -/
theorem Tks.open {lo hi : Nat} {w : World} {v : Value} {l : List Tok} (h : Tks lo hi w v l) : ∃ A c, v = .slice A l.length c ∧ l.length ≤ c ∧ c ≤ 9223372036854775807 ∧
    ∀ k (hk : k < l.length), ∃ b off, A = some ⟨b, off, none⟩ ∧ lo ≤ b ∧ b < hi ∧ w.cell? ⟨b, off + k * 3, none⟩ = some (.int .u8 (n8 l[k].lit)) ∧ w.cell? ⟨b, off + k * 3 + 1, none⟩ = some (.int .i64 l[k].len) ∧ w.cell? ⟨b, off + k * 3 + 2, none⟩ = some (.int .i64 l[k].dist) := by
  obtain ⟨A, c, rfl, h1, h2, h3, h4⟩ := h
  refine ⟨A, c, rfl, h1, h2, fun k hk => ?_⟩
  obtain ⟨b, off, rfl, hb, hb'⟩ := h3 (by omega)
  obtain ⟨cs, hl, hc, hr⟩ := h4 b off rfl k hk
  refine ⟨b, off, rfl, hb, hb', ?_, ?_, ?_⟩
  · have := hc 0 (by omega); simpa [hr, tkv] using this
  · have := hc 1 (by omega); simpa [hr, tkv] using this
  · have := hc 2 (by omega); simpa [hr, tkv] using this
theorem Tks.make {lo hi : Nat} {w : World} {l : List Tok} {b off c : Nat} (h1 : l.length ≤ c) (h2 : c ≤ 9223372036854775807) (hlo : lo ≤ b) (hhi : b < hi)
    (h : ∀ k (hk : k < l.length), w.cell? ⟨b, off + k * 3, none⟩ = some (.int .u8 (n8 l[k].lit)) ∧ w.cell? ⟨b, off + k * 3 + 1, none⟩ = some (.int .i64 l[k].len) ∧ w.cell? ⟨b, off + k * 3 + 2, none⟩ = some (.int .i64 l[k].dist)) : Tks lo hi w (.slice (some ⟨b, off, none⟩) l.length c) l := by
  refine ⟨_, c, rfl, h1, h2, fun _ => ⟨b, off, rfl, hlo, hhi⟩, fun b' off' e k hk => ?_⟩
  injection e with e
  injection e with e1 e2
  subst e1 e2
  obtain ⟨c0, c1, c2⟩ := h k hk
  refine ⟨tkv l[k], rfl, fun j hj => ?_, rfl⟩
  match j, hj with
  | 0, _ => simpa [tkv] using c0
  | 1, _ => simpa [tkv] using c1
  | 2, _ => simpa [tkv] using c2
theorem flat_len (l : List Tok) : (l.flatMap tkv).length = l.length * 3 := by
  induction l with
  | nil => rfl
  | cons f r ih => simp [tkv] at ih ⊢; omega
theorem flat_get (l : List Tok) (k : Nat) (hk : k < l.length) : (l.flatMap tkv)[k * 3]? = some (u8v l[k].lit) ∧ (l.flatMap tkv)[k * 3 + 1]? = some (.int .i64 l[k].len) ∧ (l.flatMap tkv)[k * 3 + 2]? = some (.int .i64 l[k].dist) := by
  induction l generalizing k with
  | nil => simp at hk
  | cons f r ih =>
    cases k with
    | zero => simp [tkv]
    | succ k =>
      have := ih k (by simpa using hk)
      rw [List.flatMap_cons, show tkv f = [u8v f.lit, .int .i64 f.len, .int .i64 f.dist] from rfl, show (k + 1) * 3 = k * 3 + 3 by omega]
      simpa using this
theorem flat_one (l : List Tok) : ∀ u ∈ l.flatMap tkv, u.oneCell' = true := by
  intro u hu
  obtain ⟨f, _, h⟩ := List.mem_flatMap.1 hu
  simp [tkv] at h
  rcases h with rfl | rfl | rfl <;> rfl
/-- Tokens out of a row that the call owns. -/
theorem Tks.of_own {w : World} {base : Nat} {e : TypeId} {v : Value} {l : List Tok} (h : w.ownsRow base e 3 v l.length (l.flatMap tkv)) : Tks base w.heap.size w v l := by
  rcases h.2 with ⟨rfl, h0⟩ | ⟨g, cap, cur, rfl, hb, hg, hnc, hcm, hcs, htake⟩
  · obtain rfl : l = [] := List.eq_nil_of_length_eq_zero h0
    exact Tks.nil _ _ _
  · refine Tks.make hnc (by simpa [maxLen] using hcm) hb (Blk.lt (t := e) (cs := cur) hg) fun k hk => ?_
    have hcell := fun j (hj : j < l.length * 3) => World.ownsRow.cellAt (w := w) (base := base) (e := e) (size := 3) (g := g) (n := l.length) (cap := cap) (xs := l.flatMap tkv) h j hj
    obtain ⟨c0, c1, c2⟩ := flat_get l k hk
    exact ⟨by rw [Nat.zero_add, hcell _ (by omega)]; exact c0, by rw [Nat.zero_add, hcell _ (by omega)]; exact c1, by rw [Nat.zero_add, hcell _ (by omega)]; exact c2⟩
theorem Bs.own {w : World} {base n : Nat} {e : TypeId} {v : Value} {l : List UInt8} (h : w.ownsRow base e 1 v n (l.map u8v)) : Bs base w.heap.size w v l := by
  have hn : n = l.length := by have := ownsRow_len h; simpa using this.symm
  subst hn
  exact Bs.of_own h
theorem Tks.own {w : World} {base n : Nat} {e : TypeId} {v : Value} {l : List Tok} (h : w.ownsRow base e 3 v n (l.flatMap tkv)) : Tks base w.heap.size w v l := by
  have hn : n = l.length := by have := ownsRow_len h; rw [flat_len] at this; omega
  subst hn
  exact Tks.of_own h
theorem own_fresh (w : World) (base g : Nat) (e : TypeId) (size c : Nat) (cs : Array Value) (hg : g = w.heap.size) (hb : base ≤ w.heap.size) (hc : c ≤ maxLen) (hs : cs.size = c * size) :
    (w.alloc (.cells cs e)).ownsRow base e size (.slice (some ⟨g, 0, none⟩) 0 c) 0 [] := by
  subst hg
  exact ⟨by simp, .inr ⟨w.heap.size, c, cs, rfl, hb, heap_alloc_new w _, Nat.zero_le _, hc, hs, by simp⟩⟩
theorem own_drew {w : World} {base : Nat} {e : TypeId} {size : Nat} {v : Value} {n : Nat} {xs : List Value} (h : w.ownsRow base e size v n xs) : w.drew.ownsRow base e size v n xs := h
theorem own_base {w : World} {base : Nat} {e : TypeId} {size : Nat} {v : Value} {n : Nat} {xs : List Value} (h : w.ownsRow base e size v n xs) : ∀ k, v.ownBlock = some k → base ≤ k := by
  intro k hk
  rcases h.2 with ⟨rfl, _⟩ | ⟨g, cap, cur, rfl, hb, _⟩
  · simp [Value.ownBlock] at hk
  · simp [Value.ownBlock] at hk; omega
theorem info5 : (Tryd.prog.info? 5).map (fun i => (i.zero, i.size, i.bytes)) = some (some (.int .u8 0), 1, 1) := by kernel_rfl
theorem info25 : (Tryd.prog.info? 91).map (fun i => (i.zero, i.size, i.bytes)) = some (some (.agg #[.int .u8 0, .int .i64 0, .int .i64 0]), 3, 24) := by kernel_rfl
/-- Bytes as a string. -/
def strU (l : List UInt8) : ByteArray := strOfNums (l.map fun x => (x.toNat : Int))
theorem Bs.convert {lo hi : Nat} {w : World} {v : Value} {l : List UInt8} (h : Bs lo hi w v l) : (convert 31 9 v).run Tryd.prog w = .ok (.string (strU l)) w := by
  obtain ⟨A, c, rfl, h1, h2, h3⟩ := h
  rcases Nat.eq_zero_or_pos l.length with h0 | h0
  · obtain rfl : l = [] := List.eq_nil_of_length_eq_zero h0
    rw [run_convert_bytes_string w 31 9 5 _ _ c Tryd.underlying31 Tryd.underlying5 Tryd.underlying9]
    cases A <;> simp [Conv.bytesToString, loadCells, loadCellsFrom, strU, strOfNums]
    all_goals rfl
  · obtain ⟨b, o, rfl, _, _, hc⟩ := h3 h0
    exact run_convert_bytes_arg (P := Tryd.prog) w 31 5 Tryd.underlying31 Tryd.underlying5 b o l.length c (l.map fun x => (x.toNat : Int)) (by simp) (fun i hi => by rw [hc i (by simpa using hi)]; simp [n8, List.getD, List.getElem?_eq_getElem (show i < l.length by simpa using hi)]) 9 Tryd.underlying9
theorem strU_toList (l : List UInt8) : (strU l).toList = l := by
  have h := Lib.strOfNums_toList (l.map fun x => (x.toNat : Int))
  have e : Lib.bytesOf (l.map fun x => (x.toNat : Int)) = l := by
    unfold Lib.bytesOf
    rw [List.map_map]
    conv => rhs; rw [← List.map_id l]
    apply List.map_congr_left
    intro x _
    simp
  exact h.trans e
end Go.Proofs.YthkccpemgmpadaaDoor.P.M

namespace Go.Proofs.YthkccpemgmpadaaDoor.P.M
set_option maxRecDepth 100000
open Go.RowKit

set_option maxHeartbeats 400000 in
theorem long_any (t : Tok) (w : World) :
    Calls Tryd.prog 49 #[tkV t] w fun e w' => e = .returned (.int .i64 (sizeT t)) ∧ Below w.heap.size w w' := by
  obtain ⟨o, n, d⟩ := t
  go_enter Tryd.func49, Tryd.ntmps49
  go_wp2
  all_goals go_ret
  all_goals exact ⟨ret_i rfl (by simp only [sizeT, beq_iff_eq, beq_eq_false_iff_ne, ne_eq] at *; split <;> omega), by (repeat (first | with_reducible exact Below.refl _ _ | with_reducible assumption | with_reducible refine Below.drew ?_ | with_reducible refine bl_alloc ?_ _ | with_reducible refine bl_call ?_ (by assumption) | (focus (with_reducible refine Below.setCell ?_ ?_ _; rotate_left; focus (first | omega | (simp <;> omega)))) | fail))⟩

theorem n8_zero (o : UInt8) : o = 0 ↔ n8 o = 0 := ⟨fun h => by rw [h]; rfl, fun h => n8_inj h⟩
theorem okT_iff (o : UInt8) (n d : Int) : okT ⟨o, n, d⟩ = true ↔ (n = 0 ∧ d = 0) ∨ (n ≠ 0 ∧ n8 o = 0 ∧ 3 ≤ n ∧ n ≤ 18 ∧ 1 ≤ d ∧ d ≤ 256) := by
  rw [← n8_zero]
  by_cases h : n = 0
  · simp [okT, h]
  · simp [okT, h, and_assoc]

set_option maxHeartbeats 400000 in
theorem isTok_any (t : Tok) (w : World) :
    Calls Tryd.prog 82 #[tkV t] w fun e w' => e = .returned (.bool (okT t)) ∧ Below w.heap.size w w' := by
  obtain ⟨o, n, d⟩ := t
  go_enter Tryd.func82, Tryd.ntmps82
  go_wp2
  all_goals go_ret
  all_goals refine ⟨ret_b rfl ?_, by (repeat (first | with_reducible exact Below.refl _ _ | with_reducible assumption | with_reducible refine Below.drew ?_ | with_reducible refine bl_alloc ?_ _ | with_reducible refine bl_call ?_ (by assumption) | (focus (with_reducible refine Below.setCell ?_ ?_ _; rotate_left; focus (first | omega | (simp <;> omega)))) | fail))⟩
  all_goals (rw [Bool.eq_iff_iff]; simp only [okT_iff, beq_iff_eq, beq_eq_false_iff_ne, ne_eq, decide_eq_true_eq, Bool.false_eq_true, false_iff] at *; omega)

end Go.Proofs.YthkccpemgmpadaaDoor.P.M

namespace Go.Proofs.YthkccpemgmpadaaDoor.P.M
set_option maxRecDepth 100000
open Go.RowKit

/-- OK or ErrArg. -/
def badE (b : Bool) : Int := if b then 0 else 1
/-- May tokens be? -/
def okB (l : List Tok) : Bool := decide (l.length ≤ 65536) && okL 0 l
def longN (l : List Tok) : Int := if okB l then sumT l else 0
theorem okB_iff {l : List Tok} : okB l = true ↔ l.length ≤ 65536 ∧ okL 0 l = true := by simp [okB]
theorem ret_ii {v v' : Value} {a b a' b' : Int} (h : v = .int .i64 a) (h' : v' = .int .i64 b) (e : a = a') (e' : b = b') : Ending.returned (.tuple #[v, v']) = .returned (.tuple #[.int .i64 a', .int .i64 b']) := by rw [h, h', e, e']
theorem okL_at {l : List Tok} {k : Nat} (h : k < l.length) (hw : okL 0 l = okL (sumT (l.take k)) (l.drop k)) (c : okT l[k] = true) (d : l[k].dist ≤ sumT (l.take k)) : okL 0 l = okL (sumT (l.take (k + 1))) (l.drop (k + 1)) := by
  rw [hw, List.drop_eq_getElem_cons h, okL, c, sumT_snoc h]; simp [d]
theorem okL_not {l : List Tok} {k : Nat} (h : k < l.length) (hw : okL 0 l = okL (sumT (l.take k)) (l.drop k)) (c : ¬ (okT l[k] = true ∧ l[k].dist ≤ sumT (l.take k))) : okL 0 l = false := by
  rw [hw, List.drop_eq_getElem_cons h, okL]
  cases h1 : okT l[k]
  · rfl
  · have : ¬ l[k].dist ≤ sumT (l.take k) := fun h2 => c ⟨h1, h2⟩
    simp [this]

set_option maxHeartbeats 1000000 in
theorem Long_any (lo : Nat) (v : Value) (l : List Tok) (w : World) (h : Tks lo w.heap.size w v l) :
    Calls Tryd.prog 66 #[v] w fun e w' => e = .returned (.tuple #[.int .i64 (longN l), .int .i64 (badE (okB l))]) ∧ Below w.heap.size w w' := by
  obtain ⟨A, c, rfl, h1, h2, h3⟩ := h.open
  clear h
  by_cases hl : l.length ≤ 65536
  · have hk : okB l = okL 0 l := by simp [okB, hl]
    replace hk := hide hk; replace h3 := hide h3
    go_enter Tryd.func66, Tryd.ntmps66
    go_wp2
    go_loopw [4, 12] (fun sm i wr => ∃ (k : Nat) (s : Int), k ≤ l.length ∧ i = .int .i64 k ∧ sm = .int .i64 s ∧ 0 ≤ s ∧ s ≤ 18 * k ∧ Hid (s = sumT (l.take k)) ∧ Hid (okL 0 l = okL s (l.drop k)) ∧ Hid (Below w.heap.size w wr)) (fun _ i _ => l.length - (intOf i).toNat)
    case atStart => exact ⟨0, 0, Nat.zero_le _, rfl, rfl, by omega, by omega, hide (by simp [sumT]), hide (by simp), hide (by (repeat (first | with_reducible exact Below.refl _ _ | with_reducible assumption | with_reducible refine Below.drew ?_ | with_reducible refine bl_alloc ?_ _ | with_reducible refine bl_call ?_ (by assumption) | (focus (with_reducible refine Below.setCell ?_ ?_ _; rotate_left; focus (first | omega | (simp <;> omega)))) | fail)))⟩
    case round =>
      obtain ⟨k, s, hk', rfl, rfl, hs0, hs1, hs, hw, hb⟩ := hrel
      by_cases hlt : k < l.length
      · obtain ⟨b, off, rfl, g1, g2, q0, q1, q2⟩ := unhide h3 k hlt
        have c0 := ((unhide hb).cell (p := ⟨b, off + k * 3, none⟩) g2).trans q0
        have c1 := ((unhide hb).cell (p := ⟨b, off + k * 3 + 1, none⟩) g2).trans q1
        have c2 := ((unhide hb).cell (p := ⟨b, off + k * 3 + 2, none⟩) g2).trans q2
        have e1 : Hid (okT l[k] = true → l[k].dist ≤ s → sumT (l.take (k + 1)) = s + sizeT l[k] ∧ okL 0 l = okL (s + sizeT l[k]) (l.drop (k + 1)) ∧ 1 ≤ sizeT l[k] ∧ sizeT l[k] ≤ 18) := hide fun x y => by
          have z1 := unhide hs
          have z2 := unhide hw
          have z3 := sumT_snoc hlt
          subst z1
          exact ⟨z3, by rw [← z3]; exact okL_at hlt z2 x y, okT_size x⟩
        have e2 : Hid (¬ (okT l[k] = true ∧ l[k].dist ≤ s) → okL 0 l = false) := hide fun x => by
          have z1 := unhide hs
          have z2 := unhide hw
          subst z1
          exact okL_not hlt z2 x
        clear q0 q1 q2 g1 g2
        generalize l[k] = t at *
        have ht := fun W => isTok_any t W
        have hg := fun W => long_any t W
        unfold tkV at ht hg
        replace ht := hide ht; replace hg := hide hg
        cases ho : okT t with
        | true =>
          by_cases hd : t.dist ≤ s
          · obtain ⟨x1, x2, x3, x4⟩ := unhide e1 ho hd
            replace x1 := hide x1; replace x2 := hide x2; replace ho := hide ho
            clear e1 e2
            go_wp2_with (first
              | (go_at_call 82; refine (unhide ht _).mono ?_; rintro e w1 ⟨rfl, hb1⟩; rw [unhide ho]; obtain ⟨hc1, hf1⟩ := bcell hb1; have hz1 := hb1.size; (try simp at hz1))
              | (go_at_call 49; refine (unhide hg _).mono ?_; rintro e w2 ⟨rfl, hb2⟩; obtain ⟨hc2, hf2⟩ := bcell hb2; have hz2 := hb2.size; (try simp at hz2)))
            have hb0 := unhide hb
            go_roundw
            case rel => exact ⟨k + 1, s + sizeT t, by omega, by go_num, rfl, by omega, by omega, hide (unhide x1).symm, x2, hide (by (repeat (first | with_reducible exact Below.refl _ _ | with_reducible assumption | with_reducible refine Below.drew ?_ | with_reducible refine bl_alloc ?_ _ | with_reducible refine bl_call ?_ (by assumption) | (focus (with_reducible refine Below.setCell ?_ ?_ _; rotate_left; focus (first | omega | (simp <;> omega)))) | fail)))⟩
            case measure => simp [intOf]; omega
          · have x := unhide e2 fun h => hd h.2
            replace x := hide x; replace ho := hide ho
            clear e1 e2
            go_wp2_with (go_at_call 82; refine (unhide ht _).mono ?_; rintro e w1 ⟨rfl, hb1⟩; rw [unhide ho]; obtain ⟨hc1, hf1⟩ := bcell hb1; have hz1 := hb1.size; (try simp at hz1))
            have hb0 := unhide hb
            go_ret2
            exact ⟨ret_ii rfl rfl (by simp [longN, unhide hk, unhide x]) (by simp [badE, unhide hk, unhide x]), by (repeat (first | with_reducible exact Below.refl _ _ | with_reducible assumption | with_reducible refine Below.drew ?_ | with_reducible refine bl_alloc ?_ _ | with_reducible refine bl_call ?_ (by assumption) | (focus (with_reducible refine Below.setCell ?_ ?_ _; rotate_left; focus (first | omega | (simp <;> omega)))) | fail))⟩
        | false =>
          have x := unhide e2 fun h => by rw [ho] at h; cases h.1
          replace x := hide x; replace ho := hide ho
          clear e1 e2
          go_wp2_with (go_at_call 82; refine (unhide ht _).mono ?_; rintro e w1 ⟨rfl, hb1⟩; rw [unhide ho])
          have hb0 := unhide hb
          go_ret2
          exact ⟨ret_ii rfl rfl (by simp [longN, unhide hk, unhide x]) (by simp [badE, unhide hk, unhide x]), by (repeat (first | with_reducible exact Below.refl _ _ | with_reducible assumption | with_reducible refine Below.drew ?_ | with_reducible refine bl_alloc ?_ _ | with_reducible refine bl_call ?_ (by assumption) | (focus (with_reducible refine Below.setCell ?_ ?_ _; rotate_left; focus (first | omega | (simp <;> omega)))) | fail))⟩
      · obtain rfl : k = l.length := by omega
        have hb0 := unhide hb
        go_wp2
        go_ret2
        have z2 := unhide hw
        rw [List.drop_length] at z2
        have z1 := unhide hs
        rw [List.take_length] at z1
        have z3 : okB l = true := by rw [unhide hk, z2]; rfl
        exact ⟨ret_ii rfl rfl (by simp [longN, z3, z1]) (by simp [badE, z3]), by (repeat (first | with_reducible exact Below.refl _ _ | with_reducible assumption | with_reducible refine Below.drew ?_ | with_reducible refine bl_alloc ?_ _ | with_reducible refine bl_call ?_ (by assumption) | (focus (with_reducible refine Below.setCell ?_ ?_ _; rotate_left; focus (first | omega | (simp <;> omega)))) | fail))⟩
  · have hk : okB l = false := by simp [okB, hl]
    replace hk := hide hk
    clear h3
    go_enter Tryd.func66, Tryd.ntmps66
    go_wp2
    go_ret2
    exact ⟨ret_ii rfl rfl (by simp [longN, unhide hk]) (by simp [badE, unhide hk]), by (repeat (first | with_reducible exact Below.refl _ _ | with_reducible assumption | with_reducible refine Below.drew ?_ | with_reducible refine bl_alloc ?_ _ | with_reducible refine bl_call ?_ (by assumption) | (focus (with_reducible refine Below.setCell ?_ ?_ _; rotate_left; focus (first | omega | (simp <;> omega)))) | fail))⟩

theorem Check_any (lo : Nat) (v : Value) (l : List Tok) (w : World) (h : Tks lo w.heap.size w v l) :
    Calls Tryd.prog 50 #[v] w fun e w' => e = .returned (.int .i64 (badE (okB l))) ∧ Below w.heap.size w w' := by
  have hl := Long_any lo v l w h
  obtain ⟨A, c, rfl, h1, h2, h3⟩ := h.open
  clear h h3
  replace hl := hide hl
  go_enter Tryd.func50, Tryd.ntmps50
  go_wp2_with (go_at_call 66; refine (unhide hl).mono ?_; rintro e w1 ⟨rfl, hb1⟩)
  go_ret
  exact ⟨rfl, hb1⟩
end Go.Proofs.YthkccpemgmpadaaDoor.P.M

namespace Go.Proofs.YthkccpemgmpadaaDoor.P.M
set_option maxRecDepth 100000
open Go.RowKit

theorem below_drewN {w w' : World} {B : Nat} (h : Below B w w') (n : Nat) : Below B w (w'.drewN n) := ⟨h.os, h.tape, h.output, h.size, h.block⟩
theorem u8_ne {x y : UInt8} (h : ¬ x = y) : (n8 x == n8 y) = false := by rw [n8_eql]; simp [h]
theorem u8_eq {x y : UInt8} (h : x = y) : (n8 x == n8 y) = true := by rw [n8_eql]; simp [h]

set_option maxHeartbeats 2000000 in
theorem alike_any (lo : Nat) (v : Value) (l : List UInt8) (f a : Nat) (w : World) (h : Bs lo w.heap.size w v l) (hf : f < a) (ha : a ≤ l.length) (hL : l.length ≤ 65536) :
    Calls Tryd.prog 68 #[v, .int .i64 f, .int .i64 a] w fun e w' => e = .returned (.int .i64 (alkF l f a 18 : Nat)) ∧ Below w.heap.size w w' := by
  obtain ⟨A, c, rfl, h1, h2, h3⟩ := h.open
  clear h
  obtain ⟨F, hF⟩ : ∃ F : Int, F = (f : Int) := ⟨_, rfl⟩
  obtain ⟨G, hG⟩ : ∃ G : Int, G = (a : Int) := ⟨_, rfl⟩
  obtain ⟨N, hN⟩ : ∃ N : Int, N = (alkF l f a 18 : Nat) := ⟨_, rfl⟩
  rw [← hF, ← hG, ← hN]
  have j1 : 0 ≤ F := by omega
  have j2 : F < G := by omega
  have j3 : G ≤ (l.length : Int) := by omega
  replace h3 := hide h3; replace hF := hide hF; replace hG := hide hG; replace hN := hide hN
  go_enter Tryd.func68, Tryd.ntmps68
  go_wp2
  go_loopw [7] (fun i wr => ∃ (K : Int), 0 ≤ K ∧ K ≤ 18 ∧ G + K ≤ l.length ∧ i = .int .i64 K ∧ Hid (alkF l f a 18 = K.toNat + alkF l (f + K.toNat) (a + K.toNat) (18 - K.toNat)) ∧ Hid (Below w.heap.size w wr)) (fun i _ => 18 - (intOf i).toNat)
  case atStart => exact ⟨0, by omega, by omega, by omega, rfl, hide (by simp), hide (by (repeat (first | with_reducible exact Below.refl _ _ | with_reducible assumption | with_reducible refine Below.drew ?_ | with_reducible refine bl_alloc ?_ _ | with_reducible refine bl_call ?_ (by assumption) | (focus (with_reducible refine Below.setCell ?_ ?_ _; rotate_left; focus (first | omega | (simp <;> omega)))) | fail)))⟩
  case round =>
    obtain ⟨K, k0, k1, k2, rfl, hk, hb⟩ := hrel
    have hF' := unhide hF
    have hG' := unhide hG
    have i1 : IntKind.i64.wrap (F + K) = F + K := IntWalk.i64_in _ (by omega)
    have i2 : IntKind.i64.wrap (G + K) = G + K := IntWalk.i64_in _ (by omega)
    have i3 : IntKind.i64.wrap (K + 1) = K + 1 := IntWalk.i64_in _ (by omega)
    have i4 : 0 ≤ F + K := by omega
    have i5 : 0 ≤ G + K := by omega
    have t1 : (F + K).toNat = f + K.toNat := by omega
    have t2 : (G + K).toNat = a + K.toNat := by omega
    have t3 : (K + 1).toNat = K.toNat + 1 := by omega
    have hb0 := unhide hb
    by_cases h18 : K < 18
    · have d1 : decide (K < 18) = true := by simpa using h18
      by_cases hlt : G + K < l.length
      · have d2 : decide (G + K < (l.length : Int)) = true := by simpa using hlt
        have i6 : F + K < (l.length : Int) := by omega
        obtain ⟨b, off, rfl, g1, g2, q1⟩ := unhide h3 (f + K.toNat) (by omega)
        obtain ⟨b', off', e, _, _, q2⟩ := unhide h3 (a + K.toNat) (by omega)
        injection e with e
        injection e with e1 e2
        subst e1 e2
        have c1 := ((unhide hb).cell (p := ⟨b, off + (f + K.toNat), none⟩) g2).trans q1
        have c2 := ((unhide hb).cell (p := ⟨b, off + (a + K.toNat), none⟩) g2).trans q2
        by_cases hx : l.getD (f + K.toNat) 0 = l.getD (a + K.toNat) 0
        · have hn := alkF_go (unhide hk) (by omega) (by omega) hx
          have hx' := u8_eq hx
          generalize l.getD (f + K.toNat) 0 = x at *
          generalize l.getD (a + K.toNat) 0 = y at *
          rw [← t1] at c1
          rw [← t2] at c2
          have y1 : b < wr.heap.size := World.block_lt_of_cell? wr _ c1
          clear q1 q2 hx hF' hG' t1 t2 h18 hk
          replace t3 := hide t3; replace hb0 := hide hb0; replace hn := hide hn
          go_wp2_with fail
          go_quiet (fail)
          go_wp2_with fail
          clear i1 i2 i3
          go_roundw
          case rel => exact ⟨K + 1, by omega, by simp only [decide_eq_true_eq] at d1; omega, by omega, rfl, hide (by rw [unhide t3]; exact unhide hn), hide (below_drewN (unhide hb0) _)⟩
          case measure => simp [intOf]; simp only [decide_eq_true_eq] at d1; omega
        · have hn := alkF_stop (unhide hk) (fun h => hx h.2.2)
          have hx' := u8_ne hx
          generalize l.getD (f + K.toNat) 0 = x at *
          generalize l.getD (a + K.toNat) 0 = y at *
          rw [← t1] at c1
          rw [← t2] at c2
          have y1 : b < wr.heap.size := World.block_lt_of_cell? wr _ c1
          clear q1 q2 hx hF' hG' t1 t2 h18 hk
          replace t3 := hide t3; replace hb0 := hide hb0; replace hn := hide hn
          go_wp2_with fail
          go_quiet (fail)
          go_wp2_with fail
          go_ret
          exact ⟨ret_i rfl (by have := unhide hn; have := unhide hN; omega), below_drewN (unhide hb0) _⟩
      · have d2 : decide (G + K < (l.length : Int)) = false := by simpa using hlt
        have hn := alkF_stop (unhide hk) (fun h => hlt (by omega))
        clear hF' hG' t1 t2 h18 hk hlt
        replace t3 := hide t3; replace hb0 := hide hb0; replace hn := hide hn
        go_wp2_with fail
        go_quiet (fail)
        go_wp2_with fail
        go_ret
        exact ⟨ret_i rfl (by have := unhide hn; have := unhide hN; omega), below_drewN (unhide hb0) _⟩
    · have d1 : decide (K < 18) = false := by simpa using h18
      have hn := alkF_stop (unhide hk) (fun h => h18 (by omega))
      clear hF' hG' t1 t2 h18 hk
      replace t3 := hide t3; replace hb0 := hide hb0; replace hn := hide hn
      go_wp2_with fail
      go_quiet (fail)
      go_wp2_with fail
      go_ret
      exact ⟨ret_i rfl (by have := unhide hn; have := unhide hN; omega), below_drewN (unhide hb0) _⟩
end Go.Proofs.YthkccpemgmpadaaDoor.P.M

namespace Go.Proofs.YthkccpemgmpadaaDoor.P.M
set_option maxRecDepth 100000
open Go.RowKit

theorem ret_tk {fn : Func} {p u : Tmp} {R : Ending → World → Prop} {a : Act} {w : World} (h : fn.results = #[.cell p 91, .tmp u]) (g : Nat) (x y z v : Value)
    (hp : a.tmps.getD p undef = .pointer (some ⟨g, 0, none⟩)) (hu : a.tmps.getD u undef = v) (hg : Blk w g 91 #[x, y, z]) (hd : a.defers = []) (hR : R (.returned (.tuple #[.agg #[x, y, z], v])) w) : bodyPost Tryd.prog fn R .ret a w := by
  refine bodyPost_ret (v := .tuple #[.agg #[x, y, z], v]) ?_ hd hR
  rw [results_cell_tmp h, hp, hu]
  have hl := run_loadVar_row (P := Tryd.prog) w g 91 91 #[x, y, z] (0, 0) _ hg Tryd.underlying91 rfl (by kernel_rfl)
  simp [asAddr, Result.andThen, hl]
theorem ret_tki {x y z v : Value} {t : Tok} {r : Int} (h0 : x = .int .u8 (n8 t.lit)) (h1 : y = .int .i64 t.len) (h2 : z = .int .i64 t.dist) (h3 : v = .int .i64 r) :
    Ending.returned (.tuple #[.agg #[x, y, z], v]) = .returned (.tuple #[.agg #[.int .u8 (n8 t.lit), .int .i64 t.len, .int .i64 t.dist], .int .i64 r]) := by rw [h0, h1, h2, h3]

set_option maxHeartbeats 2000000 in
theorem Find_any (lo : Nat) (v : Value) (l : List UInt8) (at_ : Int) (t : Tok) (er : Int) (w : World) (h : Bs lo w.heap.size w v l) (hr : findR l at_ = (t, er)) :
    Calls Tryd.prog 48 #[v, .int .i64 at_] w fun e w' => e = .returned (.tuple #[.agg #[.int .u8 (n8 t.lit), .int .i64 t.len, .int .i64 t.dist], .int .i64 er]) ∧ Below w.heap.size w w' := by
  have hal := fun (f a : Nat) (W : World) (hb : Below w.heap.size w W) => alike_any lo v l f a W (h.grow hb)
  obtain ⟨A, c, rfl, h1, h2, _⟩ := h.open
  clear h
  by_cases hL : 65536 < l.length
  · rw [findR, if_pos hL] at hr
    replace hal := hide hal; replace hr := hide hr
    go_enter Tryd.func48, Tryd.ntmps48
    go_wp2
    have hr' := unhide hr
    injection hr' with r1 r2
    subst r1 r2
    refine ret_tk rfl w.heap.size (.int .u8 0) (.int .i64 0) (.int .i64 0) (.int .i64 3) rfl rfl ?_ rfl ⟨rfl, by (repeat (first | with_reducible exact Below.refl _ _ | with_reducible assumption | with_reducible refine Below.drew ?_ | with_reducible refine bl_alloc ?_ _ | with_reducible refine bl_call ?_ (by assumption) | (focus (with_reducible refine Below.setCell ?_ ?_ _; rotate_left; focus (first | omega | (simp <;> omega)))) | fail))⟩
    (repeat (first | with_reducible assumption | (focus (with_reducible refine Blk.new ?_; focus (simp <;> fail))) | with_reducible refine Blk.set3 (a := .int .u8 0) (b := .int .i64 0) (c := .int .i64 0) ?_ | with_reducible refine Blk.alloc ?_ _ | with_reducible refine Blk.drew ?_ | (focus (with_reducible refine Blk.far ?_ ?_ _; rotate_left; focus (first | omega | (simp <;> omega)))) | (focus (with_reducible refine Blk.below ?_ hb1 ?_; rotate_left; focus (first | omega | (simp <;> omega)))) | (focus (with_reducible refine Blk.below ?_ hb2 ?_; rotate_left; focus (first | omega | (simp <;> omega)))) | (focus (with_reducible refine Blk.below ?_ hb3 ?_; rotate_left; focus (first | omega | (simp <;> omega)))) | (focus (with_reducible refine Blk.below ?_ hb4 ?_; rotate_left; focus (first | omega | (simp <;> omega)))) | (focus (with_reducible refine Blk.below ?_ hb5 ?_; rotate_left; focus (first | omega | (simp <;> omega)))) | (focus (with_reducible refine Blk.below ?_ hb6 ?_; rotate_left; focus (first | omega | (simp <;> omega)))) | (focus (with_reducible refine Blk.below ?_ hb7 ?_; rotate_left; focus (first | omega | (simp <;> omega)))) | (focus (with_reducible refine Blk.below ?_ hb8 ?_; rotate_left; focus (first | omega | (simp <;> omega)))) | (focus (with_reducible refine Blk.below ?_ hb9 ?_; rotate_left; focus (first | omega | (simp <;> omega)))) | (focus (with_reducible refine Blk.below ?_ hb10 ?_; rotate_left; focus (first | omega | (simp <;> omega)))) | (focus (with_reducible refine Blk.below ?_ hb11 ?_; rotate_left; focus (first | omega | (simp <;> omega)))) | (focus (with_reducible refine Blk.below ?_ hb12 ?_; rotate_left; focus (first | omega | (simp <;> omega)))) | fail))
  · by_cases ha : at_ < 0 ∨ (l.length : Int) ≤ at_
    · rw [findR, if_neg hL, if_pos ha] at hr
      replace hal := hide hal; replace hr := hide hr; replace ha := hide ha
      go_enter Tryd.func48, Tryd.ntmps48
      go_wp2
      all_goals (have ha' := unhide ha; first | (exfalso; omega) | skip)
      all_goals (have hr' := unhide hr; injection hr' with r1 r2; subst r1 r2; refine ret_tk rfl w.heap.size (.int .u8 0) (.int .i64 0) (.int .i64 0) (.int .i64 1) rfl rfl ?_ rfl ⟨rfl, by (repeat (first | with_reducible exact Below.refl _ _ | with_reducible assumption | with_reducible refine Below.drew ?_ | with_reducible refine bl_alloc ?_ _ | with_reducible refine bl_call ?_ (by assumption) | (focus (with_reducible refine Below.setCell ?_ ?_ _; rotate_left; focus (first | omega | (simp <;> omega)))) | fail))⟩; (repeat (first | with_reducible assumption | (focus (with_reducible refine Blk.new ?_; focus (simp <;> fail))) | with_reducible refine Blk.set3 (a := .int .u8 0) (b := .int .i64 0) (c := .int .i64 0) ?_ | with_reducible refine Blk.alloc ?_ _ | with_reducible refine Blk.drew ?_ | (focus (with_reducible refine Blk.far ?_ ?_ _; rotate_left; focus (first | omega | (simp <;> omega)))) | (focus (with_reducible refine Blk.below ?_ hb1 ?_; rotate_left; focus (first | omega | (simp <;> omega)))) | (focus (with_reducible refine Blk.below ?_ hb2 ?_; rotate_left; focus (first | omega | (simp <;> omega)))) | (focus (with_reducible refine Blk.below ?_ hb3 ?_; rotate_left; focus (first | omega | (simp <;> omega)))) | (focus (with_reducible refine Blk.below ?_ hb4 ?_; rotate_left; focus (first | omega | (simp <;> omega)))) | (focus (with_reducible refine Blk.below ?_ hb5 ?_; rotate_left; focus (first | omega | (simp <;> omega)))) | (focus (with_reducible refine Blk.below ?_ hb6 ?_; rotate_left; focus (first | omega | (simp <;> omega)))) | (focus (with_reducible refine Blk.below ?_ hb7 ?_; rotate_left; focus (first | omega | (simp <;> omega)))) | (focus (with_reducible refine Blk.below ?_ hb8 ?_; rotate_left; focus (first | omega | (simp <;> omega)))) | (focus (with_reducible refine Blk.below ?_ hb9 ?_; rotate_left; focus (first | omega | (simp <;> omega)))) | (focus (with_reducible refine Blk.below ?_ hb10 ?_; rotate_left; focus (first | omega | (simp <;> omega)))) | (focus (with_reducible refine Blk.below ?_ hb11 ?_; rotate_left; focus (first | omega | (simp <;> omega)))) | (focus (with_reducible refine Blk.below ?_ hb12 ?_; rotate_left; focus (first | omega | (simp <;> omega)))) | fail)))
    · rw [findR, if_neg hL, if_neg ha] at hr
      obtain ⟨a, rfl⟩ : ∃ a : Nat, at_ = a := ⟨at_.toNat, by omega⟩
      rw [Int.toNat_natCast] at hr
      have ha' : a < l.length := by omega
      obtain ⟨G, hG⟩ : ∃ G : Int, G = (a : Int) := ⟨_, rfl⟩
      have hal' : ∀ (f : Nat) (F : Int) (W : World), Below w.heap.size w W → f < a → F = (f : Int) → Calls Tryd.prog 68 #[.slice A l.length c, .int .i64 F, .int .i64 G] W fun e w' => e = .returned (.int .i64 (alkF l f a 18 : Nat)) ∧ Below W.heap.size W w' := fun f F W hb hf hF => by
        rw [hF, hG]
        exact hal f a W hb hf (by omega) (by omega)
      clear hal
      rw [← hG]
      have j1 : 0 ≤ G := by omega
      have j2 : G < (l.length : Int) := by omega
      have j3 : (l.length : Int) ≤ 65536 := by omega
      replace hal' := hide hal'; replace hr := hide hr; replace hG := hide hG
      clear ha ha' hL
      go_enter Tryd.func48, Tryd.ntmps48
      go_wp2
      go_loopw [7] (fun i wr => ∃ (I m d : Int), 1 ≤ I ∧ I ≤ 257 ∧ I ≤ G + 1 ∧ i = .int .i64 I ∧ 0 ≤ m ∧ m ≤ 18 ∧ Hid ((bestF l a (I - 1).toNat).1 = m ∧ (bestF l a (I - 1).toNat).2 = d) ∧ Hid (Below w.heap.size w wr) ∧ Hid (Blk wr w.heap.size 91 #[.int .u8 0, .int .i64 0, .int .i64 0]) ∧ Hid (Blk wr (w.heap.size + 1) 91 #[.int .u8 0, .int .i64 m, .int .i64 d])) (fun i _ => 258 - (intOf i).toNat)
      case atStart => exact ⟨1, 2, 0, by omega, by omega, by omega, rfl, by omega, by omega, hide ⟨rfl, rfl⟩, hide (by (repeat (first | with_reducible exact Below.refl _ _ | with_reducible assumption | with_reducible refine Below.drew ?_ | with_reducible refine bl_alloc ?_ _ | with_reducible refine bl_call ?_ (by assumption) | (focus (with_reducible refine Below.setCell ?_ ?_ _; rotate_left; focus (first | omega | (simp <;> omega)))) | fail))), hide (by (repeat (first | with_reducible assumption | (focus (with_reducible refine Blk.new ?_; focus (simp <;> fail))) | with_reducible refine Blk.set3 (a := .int .u8 0) (b := .int .i64 0) (c := .int .i64 0) ?_ | with_reducible refine Blk.alloc ?_ _ | with_reducible refine Blk.drew ?_ | (focus (with_reducible refine Blk.far ?_ ?_ _; rotate_left; focus (first | omega | (simp <;> omega)))) | (focus (with_reducible refine Blk.below ?_ hb1 ?_; rotate_left; focus (first | omega | (simp <;> omega)))) | (focus (with_reducible refine Blk.below ?_ hb2 ?_; rotate_left; focus (first | omega | (simp <;> omega)))) | (focus (with_reducible refine Blk.below ?_ hb3 ?_; rotate_left; focus (first | omega | (simp <;> omega)))) | (focus (with_reducible refine Blk.below ?_ hb4 ?_; rotate_left; focus (first | omega | (simp <;> omega)))) | (focus (with_reducible refine Blk.below ?_ hb5 ?_; rotate_left; focus (first | omega | (simp <;> omega)))) | (focus (with_reducible refine Blk.below ?_ hb6 ?_; rotate_left; focus (first | omega | (simp <;> omega)))) | (focus (with_reducible refine Blk.below ?_ hb7 ?_; rotate_left; focus (first | omega | (simp <;> omega)))) | (focus (with_reducible refine Blk.below ?_ hb8 ?_; rotate_left; focus (first | omega | (simp <;> omega)))) | (focus (with_reducible refine Blk.below ?_ hb9 ?_; rotate_left; focus (first | omega | (simp <;> omega)))) | (focus (with_reducible refine Blk.below ?_ hb10 ?_; rotate_left; focus (first | omega | (simp <;> omega)))) | (focus (with_reducible refine Blk.below ?_ hb11 ?_; rotate_left; focus (first | omega | (simp <;> omega)))) | (focus (with_reducible refine Blk.below ?_ hb12 ?_; rotate_left; focus (first | omega | (simp <;> omega)))) | fail))), hide (by (repeat (first | with_reducible assumption | (focus (with_reducible refine Blk.new ?_; focus (simp <;> fail))) | with_reducible refine Blk.set3 (a := .int .u8 0) (b := .int .i64 0) (c := .int .i64 0) ?_ | with_reducible refine Blk.alloc ?_ _ | with_reducible refine Blk.drew ?_ | (focus (with_reducible refine Blk.far ?_ ?_ _; rotate_left; focus (first | omega | (simp <;> omega)))) | (focus (with_reducible refine Blk.below ?_ hb1 ?_; rotate_left; focus (first | omega | (simp <;> omega)))) | (focus (with_reducible refine Blk.below ?_ hb2 ?_; rotate_left; focus (first | omega | (simp <;> omega)))) | (focus (with_reducible refine Blk.below ?_ hb3 ?_; rotate_left; focus (first | omega | (simp <;> omega)))) | (focus (with_reducible refine Blk.below ?_ hb4 ?_; rotate_left; focus (first | omega | (simp <;> omega)))) | (focus (with_reducible refine Blk.below ?_ hb5 ?_; rotate_left; focus (first | omega | (simp <;> omega)))) | (focus (with_reducible refine Blk.below ?_ hb6 ?_; rotate_left; focus (first | omega | (simp <;> omega)))) | (focus (with_reducible refine Blk.below ?_ hb7 ?_; rotate_left; focus (first | omega | (simp <;> omega)))) | (focus (with_reducible refine Blk.below ?_ hb8 ?_; rotate_left; focus (first | omega | (simp <;> omega)))) | (focus (with_reducible refine Blk.below ?_ hb9 ?_; rotate_left; focus (first | omega | (simp <;> omega)))) | (focus (with_reducible refine Blk.below ?_ hb10 ?_; rotate_left; focus (first | omega | (simp <;> omega)))) | (focus (with_reducible refine Blk.below ?_ hb11 ?_; rotate_left; focus (first | omega | (simp <;> omega)))) | (focus (with_reducible refine Blk.below ?_ hb12 ?_; rotate_left; focus (first | omega | (simp <;> omega)))) | fail)))⟩
      case round =>
        obtain ⟨I, m, d, k0, k1, k2, rfl, hm0, hm18, hm, hb, hB0, hB1⟩ := hrel
        have hG' := unhide hG
        have q1 := (unhide hB1).cell 1
        have q2 := (unhide hB1).cell 2
        have q0 := (unhide hB1).cell 0
        simp at q0 q1 q2
        have p0 := (unhide hB1).frozen 0
        have p1 := (unhide hB1).frozen 1
        have p2 := (unhide hB1).frozen 2
        have y0 : w.heap.size < wr.heap.size := (unhide hB0).lt
        have y1 : w.heap.size + 1 < wr.heap.size := (unhide hB1).lt
        have i1 : IntKind.i64.wrap (I + 1) = I + 1 := IntWalk.i64_in _ (by omega)
        have i2 : IntKind.i64.wrap (G - I) = G - I := IntWalk.i64_in _ (by omega)
        by_cases hlt : I ≤ 256 ∧ I ≤ G
        · obtain ⟨l1, l2⟩ := hlt
          have ha : Hid (∀ W : World, Below w.heap.size w W → Calls Tryd.prog 68 #[.slice A l.length c, .int .i64 (G - I), .int .i64 G] W fun e w' => e = .returned (.int .i64 (alkF l (a - I.toNat) a 18 : Nat)) ∧ Below W.heap.size W w') :=
            hide fun W hW => unhide hal' (a - I.toNat) (G - I) W hW (by omega) (by omega)
          have hbst : Hid (bestF l a (I + 1 - 1).toNat = if m < (alkF l (a - I.toNat) a 18 : Nat) then (alkF l (a - I.toNat) a 18, I.toNat) else bestF l a (I - 1).toNat) := by
            refine hide ?_
            rw [show (I + 1 - 1).toNat = (I - 1).toNat + 1 by omega, bestF, show (I - 1).toNat + 1 = I.toNat by omega, ← (unhide hm).1]
            simp
          have hle := alkF_le l (a - I.toNat) a 18
          clear hG'
          generalize alkF l (a - I.toNat) a 18 = n at *
          obtain ⟨N, hN⟩ : ∃ N : Int, N = (n : Int) := ⟨_, rfl⟩
          rw [← hN] at ha hbst
          have n0 : 0 ≤ N := by omega
          have n1 : N ≤ 18 := by omega
          replace hN := hide hN
          clear hle
          go_wp2_with (go_at_call 68; refine (unhide ha _ (by exact unhide hb)).mono ?_; rintro e w1 ⟨rfl, hb1⟩; obtain ⟨hc1, hf1⟩ := bcell hb1; have hz1 := hb1.size)
          · have hb0 := unhide hb
            have hn : m < N := by assumption
            go_roundw
            case rel =>
              refine ⟨I + 1, N, I, by omega, by omega, by omega, rfl, n0, n1, hide ?_, hide (by (repeat (first | with_reducible exact Below.refl _ _ | with_reducible assumption | with_reducible refine Below.drew ?_ | with_reducible refine bl_alloc ?_ _ | with_reducible refine bl_call ?_ (by assumption) | (focus (with_reducible refine Below.setCell ?_ ?_ _; rotate_left; focus (first | omega | (simp <;> omega)))) | fail))), hide ?_, hide ?_⟩
              · rw [unhide hbst, if_pos hn]; exact ⟨(unhide hN).symm, by simp only []; omega⟩
              · have B0 := unhide hB0
                exact Blk.far (Blk.far (Blk.far (B0.below hb1 y0) (by simp) _) (by simp) _) (by simp) _
              · exact Blk.set3 (Blk.below (unhide hB1) hb1 y1)
            case measure => simp [intOf]; omega
          · have hb0 := unhide hb
            have hn : ¬ m < N := by omega
            go_roundw
            case rel =>
              refine ⟨I + 1, m, d, by omega, by omega, by omega, rfl, hm0, hm18, hide ?_, hide (by (repeat (first | with_reducible exact Below.refl _ _ | with_reducible assumption | with_reducible refine Below.drew ?_ | with_reducible refine bl_alloc ?_ _ | with_reducible refine bl_call ?_ (by assumption) | (focus (with_reducible refine Below.setCell ?_ ?_ _; rotate_left; focus (first | omega | (simp <;> omega)))) | fail))), hide (Blk.below (unhide hB0) hb1 y0), hide (Blk.below (unhide hB1) hb1 y1)⟩
              rw [unhide hbst, if_neg hn]; exact unhide hm
            case measure => simp [intOf]; omega
        · have hI : (I - 1).toNat = min a 256 := by omega
          have hm1 := unhide hm
          rw [hI] at hm1
          obtain ⟨m1, m2⟩ := hm1
          have hr' := unhide hr
          rw [m1, m2] at hr'
          have u0 := (unhide hB0).cell 0
          have u1 := (unhide hB0).cell 1
          have u2 := (unhide hB0).cell 2
          simp at u0 u1 u2
          have v0 := (unhide hB0).frozen 0
          have v1 := (unhide hB0).frozen 1
          have v2 := (unhide hB0).frozen 2
          by_cases hd : d = 0
          · rw [if_pos (by omega)] at hr'
            injection hr' with r1 r2
            subst r1 r2 hd
            clear hG' m1 m2 hI i1 i2 hr hal' hm
            go_wp2_with fail
            all_goals (have B0 := unhide hB0; have hb0 := unhide hb)
            all_goals (refine ret_tk rfl w.heap.size (.int .u8 0) (.int .i64 0) (.int .i64 0) (.int .i64 4) rfl rfl ?_ rfl ⟨ret_tki rfl rfl rfl rfl, by (repeat (first | with_reducible exact Below.refl _ _ | with_reducible assumption | with_reducible refine Below.drew ?_ | with_reducible refine bl_alloc ?_ _ | with_reducible refine bl_call ?_ (by assumption) | (focus (with_reducible refine Below.setCell ?_ ?_ _; rotate_left; focus (first | omega | (simp <;> omega)))) | fail))⟩; (repeat (first | with_reducible assumption | (focus (with_reducible refine Blk.new ?_; focus (simp <;> fail))) | with_reducible refine Blk.set3 (a := .int .u8 0) (b := .int .i64 0) (c := .int .i64 0) ?_ | with_reducible refine Blk.alloc ?_ _ | with_reducible refine Blk.drew ?_ | (focus (with_reducible refine Blk.far ?_ ?_ _; rotate_left; focus (first | omega | (simp <;> omega)))) | (focus (with_reducible refine Blk.below ?_ hb1 ?_; rotate_left; focus (first | omega | (simp <;> omega)))) | (focus (with_reducible refine Blk.below ?_ hb2 ?_; rotate_left; focus (first | omega | (simp <;> omega)))) | (focus (with_reducible refine Blk.below ?_ hb3 ?_; rotate_left; focus (first | omega | (simp <;> omega)))) | (focus (with_reducible refine Blk.below ?_ hb4 ?_; rotate_left; focus (first | omega | (simp <;> omega)))) | (focus (with_reducible refine Blk.below ?_ hb5 ?_; rotate_left; focus (first | omega | (simp <;> omega)))) | (focus (with_reducible refine Blk.below ?_ hb6 ?_; rotate_left; focus (first | omega | (simp <;> omega)))) | (focus (with_reducible refine Blk.below ?_ hb7 ?_; rotate_left; focus (first | omega | (simp <;> omega)))) | (focus (with_reducible refine Blk.below ?_ hb8 ?_; rotate_left; focus (first | omega | (simp <;> omega)))) | (focus (with_reducible refine Blk.below ?_ hb9 ?_; rotate_left; focus (first | omega | (simp <;> omega)))) | (focus (with_reducible refine Blk.below ?_ hb10 ?_; rotate_left; focus (first | omega | (simp <;> omega)))) | (focus (with_reducible refine Blk.below ?_ hb11 ?_; rotate_left; focus (first | omega | (simp <;> omega)))) | (focus (with_reducible refine Blk.below ?_ hb12 ?_; rotate_left; focus (first | omega | (simp <;> omega)))) | fail)))
          · rw [if_neg (by omega)] at hr'
            injection hr' with r1 r2
            subst r1 r2
            clear hG' m1 m2 hI i1 i2 hr hal' hm
            go_wp2_with fail
            all_goals (have B0 := unhide hB0; have hb0 := unhide hb)
            all_goals (refine ret_tk rfl w.heap.size (.int .u8 0) (.int .i64 m) (.int .i64 d) (.int .i64 0) rfl rfl ?_ rfl ⟨rfl, by (repeat (first | with_reducible exact Below.refl _ _ | with_reducible assumption | with_reducible refine Below.drew ?_ | with_reducible refine bl_alloc ?_ _ | with_reducible refine bl_call ?_ (by assumption) | (focus (with_reducible refine Below.setCell ?_ ?_ _; rotate_left; focus (first | omega | (simp <;> omega)))) | fail))⟩; (repeat (first | with_reducible assumption | (focus (with_reducible refine Blk.new ?_; focus (simp <;> fail))) | with_reducible refine Blk.set3 (a := .int .u8 0) (b := .int .i64 0) (c := .int .i64 0) ?_ | with_reducible refine Blk.alloc ?_ _ | with_reducible refine Blk.drew ?_ | (focus (with_reducible refine Blk.far ?_ ?_ _; rotate_left; focus (first | omega | (simp <;> omega)))) | (focus (with_reducible refine Blk.below ?_ hb1 ?_; rotate_left; focus (first | omega | (simp <;> omega)))) | (focus (with_reducible refine Blk.below ?_ hb2 ?_; rotate_left; focus (first | omega | (simp <;> omega)))) | (focus (with_reducible refine Blk.below ?_ hb3 ?_; rotate_left; focus (first | omega | (simp <;> omega)))) | (focus (with_reducible refine Blk.below ?_ hb4 ?_; rotate_left; focus (first | omega | (simp <;> omega)))) | (focus (with_reducible refine Blk.below ?_ hb5 ?_; rotate_left; focus (first | omega | (simp <;> omega)))) | (focus (with_reducible refine Blk.below ?_ hb6 ?_; rotate_left; focus (first | omega | (simp <;> omega)))) | (focus (with_reducible refine Blk.below ?_ hb7 ?_; rotate_left; focus (first | omega | (simp <;> omega)))) | (focus (with_reducible refine Blk.below ?_ hb8 ?_; rotate_left; focus (first | omega | (simp <;> omega)))) | (focus (with_reducible refine Blk.below ?_ hb9 ?_; rotate_left; focus (first | omega | (simp <;> omega)))) | (focus (with_reducible refine Blk.below ?_ hb10 ?_; rotate_left; focus (first | omega | (simp <;> omega)))) | (focus (with_reducible refine Blk.below ?_ hb11 ?_; rotate_left; focus (first | omega | (simp <;> omega)))) | (focus (with_reducible refine Blk.below ?_ hb12 ?_; rotate_left; focus (first | omega | (simp <;> omega)))) | fail)))
end Go.Proofs.YthkccpemgmpadaaDoor.P.M
