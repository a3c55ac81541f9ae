import Derived.Test.YthkccpemgmpadaaGreatDoorU6
import Derived.Test.YthkccpemgmpadaaGreatDoorU4
namespace Go.Proofs.YthkccpemgmpadaaGreatDoor.P
set_option maxRecDepth 100000
open Go.RowKit
theorem put_any (base g gc cc gt ct k : Nat) (b : Bool) (s : Enc) (w : World) (hW : Wrt base g gc cc gt ct w s.c s.span s.low s.text) (hk : k < s.c.length) (h : OkE s) (hl : s.text.length ≤ 1000000) :
    Calls Tryz.prog 92 #[.pointer (some ⟨g, 0, none⟩), .agg #[.int .i64 k, .bool b]] w fun e w' => e = .returned (.tuple #[]) ∧ ∃ gt' ct', Wrt base g gc cc gt' ct' w' (put s ⟨k, b⟩).c (put s ⟨k, b⟩).span (put s ⟨k, b⟩).low (put s ⟨k, b⟩).text ∧ But [g, gc, gt] w w' := by
  cases b
  · exact put_false base g gc cc gt ct k s w hW hk h hl
  · exact put_true base g gc cc gt ct k s w hW hk h hl
set_option maxHeartbeats 4000000 in
theorem end_any (base g gc cc gt ct : Nat) (c : List Int) (span low : Int) (text : List Int) (w : World) (hW : Wrt base g gc cc gt ct w c span low text) (hlow : 0 ≤ low ∧ low < 4294967296) (hl : text.length ≤ 1000000) (ht0 : 0 < text.length) :
    Calls Tryz.prog 93 #[.pointer (some ⟨g, 0, none⟩)] w fun e w' => ∃ g' c', e = .returned (.slice (some ⟨g', 0, none⟩) (text.length + 4) c') ∧ w'.ownsRow base 5 1 (.slice (some ⟨g', 0, none⟩) (text.length + 4) c') (text.length + 4) ((text ++ be4 low).flatMap byc) ∧ But [gt] w w' := by
  obtain ⟨hK, hc, ht⟩ := hW
  obtain ⟨i5, hi5, iz0, iz1, iz2⟩ := info5'
  have j1 : IntKind.u8.wrap (low / 16777216) = low / 16777216 := IntWalk.u8_in _ (by omega)
  have j2 : IntKind.u8.wrap (low / 65536) = low / 65536 % 256 := IntKind.wrap_u8 _
  have j3 : IntKind.u8.wrap (low / 256) = low / 256 % 256 := IntKind.wrap_u8 _
  have j4 : IntKind.u8.wrap low = low % 256 := IntKind.wrap_u8 _
  have hbs : base ≤ w.heap.size := by
    obtain ⟨_, cur, e1, h2, hh⟩ := own_pos ht ht0
    have := hh.lt
    omega
  have c2 : w.cell? ⟨g, 2, none⟩ = some (.slice (some ⟨gt, 0, none⟩) text.length ct) := hK.cell 2
  have c3 : w.cell? ⟨g, 3, none⟩ = some (.int .u32 low) := hK.cell 3
  obtain ⟨N, hN⟩ : ∃ N : List Value, N = [.int .u8 (low / 16777216), .int .u8 (low / 65536 % 256), .int .u8 (low / 256 % 256), .int .u8 (low % 256)] := ⟨_, rfl⟩
  have oA := own_drew (ht.alloc (.cells #[.int .u8 (low / 16777216), .int .u8 (low / 65536 % 256), .int .u8 (low / 256 % 256), .int .u8 (low % 256)] 5))
  have sA : SrcOk (w.alloc (.cells #[.int .u8 (low / 16777216), .int .u8 (low / 65536 % 256), .int .u8 (low / 256 % 256), .int .u8 (low % 256)] 5)).drew (some ⟨w.heap.size, 0, none⟩) 4 N := by
    rw [hN]
    exact SrcOk.blk (cur := [.int .u8 (low / 16777216), .int .u8 (low / 65536 % 256), .int .u8 (low / 256 % 256), .int .u8 (low % 256)]) (Blk.drew (Blk.new rfl)) fun j u hu => by simpa using hu
  have s1 : ∀ u ∈ N, u.oneCell' = true := by rw [hN]; intro u hu; simp at hu; rcases hu with rfl | rfl | rfl | rfl <;> rfl
  have sl : N.length = 4 * 1 := by rw [hN]; rfl
  have b1 : text.length + 4 ≤ maxLen := by simp only [maxLen]; omega
  have b2 : (text.length + 4) * 1 ≤ 140737488355328 := by omega
  have b3 : base ≤ (w.alloc (.cells #[.int .u8 (low / 16777216), .int .u8 (low / 65536 % 256), .int .u8 (low / 256 % 256), .int .u8 (low % 256)] 5)).drew.heap.size := by simp; omega
  have hfin : text.flatMap byc ++ N = (text ++ be4 low).flatMap byc := by rw [hN, List.flatMap_append]; rfl
  have hlt : g < w.heap.size := hK.lt
  have KA := (hK.alloc (.cells #[.int .u8 (low / 16777216), .int .u8 (low / 65536 % 256), .int .u8 (low / 256 % 256), .int .u8 (low % 256)] 5)).drew
  have hB := (But.refl [gt] w).alloc (.cells #[.int .u8 (low / 16777216), .int .u8 (low / 65536 % 256), .int .u8 (low / 256 % 256), .int .u8 (low % 256)] 5) |>.drew
  replace KA := hide KA; replace hB := hide hB
  replace oA := hide oA; replace sA := hide sA; replace s1 := hide s1; replace sl := hide sl; replace b1 := hide b1; replace b2 := hide b2; replace b3 := hide b3; replace hfin := hide hfin; replace hN := hide hN
  clear ht hc hK
  go_enter Tryz.func93, Tryz.ntmps93
  go_wp2_with fail
  go_region_held3 (fun W => W.cell? ⟨g, 2, none⟩ = some (.slice (some ⟨gt, 0, none⟩) text.length ct) ∧ W.cell? ⟨g, 3, none⟩ = some (.int .u32 low)) (first | exact ⟨by assumption, by assumption⟩ | exact ⟨by go_simp, by go_simp⟩)
    (first
      | (refine step_app_at rfl (.tmp 6) (.tmp 30) 29 rfl base 5 i5 _ 1 1 Tryz.underlying29 hi5 iz0 iz1 iz2 rfl (Nat.succ_pos _) _ text.length (text.flatMap byc) rfl (unhide oA) (some ⟨w.heap.size, 0, none⟩) 4 4 N rfl (unhide sl) (unhide sA) (unhide s1) (unhide b1) (unhide b2) (unhide b3) ?_
         intro v6 w6 o6 g6 l6
         obtain ⟨A6, ct6, rfl⟩ := ownsRow_form o6
         have K6 := Blk.grown (unhide KA) g6 (own_ne (unhide oA) (unhide KA) (by decide))
         have x2 : w6.cell? ⟨g, 2, none⟩ = some (.slice (some ⟨gt, 0, none⟩) text.length ct) := K6.cell 2
         have x3 : w6.cell? ⟨g, 3, none⟩ = some (.int .u32 low) := K6.cell 3
         clear K6
         replace o6 := hide o6; replace g6 := hide g6; replace l6 := hide l6))
  go_wp2_with fail
  go_ret
  have o7 := unhide o6
  rw [unhide hfin] at o7
  obtain ⟨g7, _, e7, _, _⟩ := own_pos o7 (by omega)
  subst e7
  exact ⟨g7, ct6, rfl, o7, (unhide hB).grown (unhide g6) (fun q hq => .inl (by injection hq with hq; simp [← hq]))⟩
def firstI {α : Type} (p : α → Bool) : Nat → List α → Int
  | _, [] => -1
  | k, f :: r => if p f then (k : Int) else firstI p (k + 1) r
theorem firstI_any {α : Type} (p : α → Bool) (k : Nat) (l : List α) : decide (0 ≤ firstI p k l) = l.any p := by
  induction l generalizing k with
  | nil => simp [firstI]
  | cons x r ih =>
    rw [firstI]
    cases h : p x
    · simp [h, ih]
    · simp [h]
set_option maxHeartbeats 1000000 in
theorem out_any (x : Bit) (g : Nat) (sv : Value) (A : Option Addr) (n c : Nat) (w : World) (hg : Blk w g 116 #[sv, .slice A n c]) :
    Calls Tryz.prog 90 #[btV x, .pointer (some ⟨g, 0, none⟩)] w fun e w' => e = .returned (.bool (!inB n x)) ∧ Below w.heap.size w w' := by
  obtain ⟨a, b⟩ := x
  have hh := fun W (hb : Below w.heap.size w W) => has_any g n A c a W ((hg.below hb hg.lt).cell 1)
  have y1 := hg.lt
  replace hh := hide hh
  simp only [btV]
  go_enter Tryz.func90, Tryz.ntmps90
  go_wp2_with (go_at_call 91; refine (unhide hh _ (by (repeat (first | with_reducible exact Below.refl _ _ | with_reducible assumption | with_reducible refine Below.drew ?_ | with_reducible refine bl_alloc ?_ _ | with_reducible refine bl_call ?_ (by assumption) | (focus (with_reducible refine Below.setCell ?_ ?_ _; rotate_left; focus (first | omega | (simp <;> omega)))) | fail)))).mono ?_; rintro e w1 ⟨rfl, rfl⟩)
  go_ret
  exact ⟨ret_b rfl (by simp [inB]), by (repeat (first | with_reducible exact Below.refl _ _ | with_reducible assumption | with_reducible refine Below.drew ?_ | with_reducible refine bl_alloc ?_ _ | with_reducible refine bl_call ?_ (by assumption) | (focus (with_reducible refine Below.setCell ?_ ?_ _; rotate_left; focus (first | omega | (simp <;> omega)))) | fail))⟩
set_option maxHeartbeats 1000000 in
theorem index38_any (g : Nat) (sv : Value) (A' : Option Addr) (n c' : Nat) (lo : Nat) (v : Value) (l : List Bit) (w : World) (h : Bts lo w.heap.size w v l) (hg : Blk w g 116 #[sv, .slice A' n c']) :
    Calls Tryz.prog 118 #[v, .func (.func 90) #[] #[.pointer (some ⟨g, 0, none⟩)]] w fun e w' => e = .returned (.int .i64 (firstI (fun x => !inB n x) 0 l)) ∧ Below w.heap.size w w' := by
  obtain ⟨A, c, rfl, h1, h2, h3⟩ := h.open
  have hf := fun x W (hb : Below w.heap.size w W) => out_any x g sv A' n c' W (hg.below hb hg.lt)
  replace h3 := hide h3; replace hf := hide hf; clear h hg
  go_enter Tryz.func118, Tryz.ntmps118
  go_wp2
  go_loopw [8] (fun i wr => ∃ (k : Nat), k ≤ l.length ∧ i = .int .i64 k ∧ Hid (firstI (fun x => !inB n x) 0 l = firstI (fun x => !inB n x) k (l.drop k)) ∧ Hid (Below w.heap.size w wr)) (fun i _ => l.length - (intOf i).toNat)
  case atStart => exact ⟨0, Nat.zero_le _, rfl, hide (by simp), hide (by (repeat (first | with_reducible exact Below.refl _ _ | with_reducible assumption | with_reducible refine Below.drew ?_ | with_reducible refine bl_alloc ?_ _ | with_reducible refine bl_call ?_ (by assumption) | (focus (with_reducible refine Below.setCell ?_ ?_ _; rotate_left; focus (first | omega | (simp <;> omega)))) | fail)))⟩
  case round =>
    obtain ⟨k, hk', rfl, hw, hb⟩ := hrel
    by_cases hlt : k < l.length
    · obtain ⟨b, off, rfl, g1, g2, q0, q1⟩ := unhide h3 k hlt
      have c0 := ((unhide hb).cell (p := ⟨b, off + k * 2, none⟩) g2).trans q0
      have c1 := ((unhide hb).cell (p := ⟨b, off + k * 2 + 1, none⟩) g2).trans q1
      have hd : l.drop k = l[k] :: l.drop (k + 1) := List.drop_eq_getElem_cons hlt
      have hfk := fun W hW => unhide hf l[k] W hW
      generalize l[k] = f at *
      obtain ⟨fa, fl⟩ := f
      simp only [btV] at c0 c1 hfk
      replace hd := hide hd; replace hfk := hide hfk
      clear q0 q1 g1
      cases hp : inB n ⟨fa, fl⟩ with
      | false =>
        go_wp2_with (go_at_call 90; refine (unhide hfk _ (by have hb0 := unhide hb; (repeat (first | with_reducible exact Below.refl _ _ | with_reducible assumption | with_reducible refine Below.drew ?_ | with_reducible refine bl_alloc ?_ _ | with_reducible refine bl_call ?_ (by assumption) | (focus (with_reducible refine Below.setCell ?_ ?_ _; rotate_left; focus (first | omega | (simp <;> omega)))) | fail)))).mono ?_; rintro e w1 ⟨rfl, hb1⟩; rw [hp])
        have hb0 := unhide hb
        go_ret
        refine ⟨ret_i rfl ?_, by (repeat (first | with_reducible exact Below.refl _ _ | with_reducible assumption | with_reducible refine Below.drew ?_ | with_reducible refine bl_alloc ?_ _ | with_reducible refine bl_call ?_ (by assumption) | (focus (with_reducible refine Below.setCell ?_ ?_ _; rotate_left; focus (first | omega | (simp <;> omega)))) | fail))⟩
        rw [unhide hw, unhide hd, firstI, if_pos (by simp [hp])]
      | true =>
        go_wp2_with (go_at_call 90; refine (unhide hfk _ (by have hb0 := unhide hb; (repeat (first | with_reducible exact Below.refl _ _ | with_reducible assumption | with_reducible refine Below.drew ?_ | with_reducible refine bl_alloc ?_ _ | with_reducible refine bl_call ?_ (by assumption) | (focus (with_reducible refine Below.setCell ?_ ?_ _; rotate_left; focus (first | omega | (simp <;> omega)))) | fail)))).mono ?_; rintro e w1 ⟨rfl, hb1⟩; rw [hp])
        have hb0 := unhide hb
        go_roundw
        case rel =>
          refine ⟨k + 1, by omega, by go_num, hide ?_, hide (by (repeat (first | with_reducible exact Below.refl _ _ | with_reducible assumption | with_reducible refine Below.drew ?_ | with_reducible refine bl_alloc ?_ _ | with_reducible refine bl_call ?_ (by assumption) | (focus (with_reducible refine Below.setCell ?_ ?_ _; rotate_left; focus (first | omega | (simp <;> omega)))) | fail)))⟩
          rw [unhide hw, unhide hd, firstI, if_neg (by simp [hp])]
        case measure => simp [intOf]; omega
    · have hb0 := unhide hb
      go_wp2
      go_ret
      refine ⟨ret_i rfl ?_, by (repeat (first | with_reducible exact Below.refl _ _ | with_reducible assumption | with_reducible refine Below.drew ?_ | with_reducible refine bl_alloc ?_ _ | with_reducible refine bl_call ?_ (by assumption) | (focus (with_reducible refine Below.setCell ?_ ?_ _; rotate_left; focus (first | omega | (simp <;> omega)))) | fail))⟩
      rw [unhide hw, List.drop_of_length_le (by omega)]
      rfl
set_option maxHeartbeats 400000 in
theorem contains23_any (g : Nat) (sv : Value) (A' : Option Addr) (n c' : Nat) (lo : Nat) (v : Value) (l : List Bit) (w : World) (h : Bts lo w.heap.size w v l) (hg : Blk w g 116 #[sv, .slice A' n c']) :
    Calls Tryz.prog 89 #[v, .func (.func 90) #[] #[.pointer (some ⟨g, 0, none⟩)]] w fun e w' => e = .returned (.bool (!l.all (inB n))) ∧ Below w.heap.size w w' := by
  have hx := index38_any g sv A' n c' lo v l w h hg
  have hd := firstI_any (fun x => !inB n x) 0 l
  have hd2 : (l.any fun x => !inB n x) = !l.all (inB n) := by rw [List.any_eq_not_all_not]; simp
  rw [hd2] at hd
  obtain ⟨A, c, rfl, h1, h2, h3⟩ := h.open
  clear h h3 hd2
  replace hx := hide hx; replace hd := hide hd
  go_enter Tryz.func89, Tryz.ntmps89
  go_wp2_with (go_at_call 118; refine (unhide hx).mono ?_; rintro e w1 ⟨rfl, hb1⟩)
  go_ret
  exact ⟨ret_b rfl (unhide hd), hb1⟩
theorem own_of_blk {w : World} {g base n : Nat} {l : List Int} (h : Blk w g 3 (l.flatMap ivc).toArray) (hb : base ≤ g) (hn : n = l.length) (hl : l.length ≤ maxLen) : w.ownsRow base 3 1 (.slice (some ⟨g, 0, none⟩) n n) n (l.flatMap ivc) := by
  subst hn
  have := flat_len ivc_len l
  refine ⟨this, .inr ⟨g, l.length, _, rfl, hb, h, Nat.le_refl _, hl, by simpa using this, ?_⟩⟩
  rw [List.take_of_length_le (by simp [this])]
set_option maxHeartbeats 1000000 in
theorem New_own (n : Nat) (hn : n ≤ 1024) (w : World) :
    Calls Tryz.prog 117 #[.int .i64 n] w fun e w' => ∃ g, e = .returned (.tuple #[.slice (some ⟨g, 0, none⟩) n n, .int .i64 0]) ∧ w'.ownsRow w.heap.size 3 1 (.slice (some ⟨g, 0, none⟩) n n) n ((List.replicate n (1024 : Int)).flatMap ivc) ∧ Below w.heap.size w w' := by
  have hR := fun g W hg => repeat_any n hn g W hg
  have k0 : ¬ (n : Int) < 0 := by omega
  have k1 : ¬ (1024 : Int) < (n : Int) := by omega
  replace hR := hide hR
  go_enter Tryz.func117, Tryz.ntmps117
  go_wp2_with (first
    | (go_at_call 133; refine (unhide hR _ _ (Blk.new rfl)).mono ?_; rintro e w1 ⟨g, rfl, hB, hg, hb1⟩; replace hB := hide hB)
    | fail)
  go_ret2
  have hB' := unhide hB
  rw [rep_flat] at hB'
  refine ⟨g, rfl, own_of_blk (l := List.replicate n 1024) hB' ?_ (by simp) (by simp [maxLen]; omega), by (repeat (first | with_reducible exact Below.refl _ _ | with_reducible assumption | with_reducible refine Below.drew ?_ | with_reducible refine bl_alloc ?_ _ | with_reducible refine bl_call ?_ (by assumption) | (focus (with_reducible refine Below.setCell ?_ ?_ _; rotate_left; focus (first | omega | (simp <;> omega)))) | fail))⟩
  simp at hg
  omega
theorem ret_cod {fn : Func} {p u : Tmp} {R : Ending → World → Prop} {a : Act} {w : World} (h : fn.results = #[.cell p 116, .tmp u]) (g : Nat) (x y : Value) (v : Value)
    (hp : a.tmps.getD p undef = .pointer (some ⟨g, 0, none⟩)) (hu : a.tmps.getD u undef = v) (hg : Blk w g 116 #[x, y]) (hd : a.defers = []) (hR : R (.returned (.tuple #[.agg #[x, y], v])) w) : bodyPost Tryz.prog fn R .ret a w := by
  refine bodyPost_ret (v := .tuple #[.agg #[x, y], v]) ?_ hd hR
  rw [results_cell_tmp h, hp, hu]
  have hl := run_loadVar_row (P := Tryz.prog) w g 116 116 #[x, y] (0, 0) _ hg Tryz.underlying116 rfl ((by kernel_rfl : (Tryz.prog.info? 116).map (·.size) = some 2))
  simp [asAddr, Result.andThen, hl]
set_option maxHeartbeats 1000000 in
theorem start_good (n : Nat) (hn : n ≤ 1024) (w : World) :
    Calls Tryz.prog 88 #[.int .i64 n] w fun e w' => ∃ g, e = .returned (.tuple #[.agg #[.int .u32 4294967295, .slice (some ⟨g, 0, none⟩) n n], .int .i64 0]) ∧ w'.ownsRow w.heap.size 3 1 (.slice (some ⟨g, 0, none⟩) n n) n ((List.replicate n (1024 : Int)).flatMap ivc) ∧ Below w.heap.size w w' := by
  have hN := fun W => New_own n hn W
  replace hN := hide hN
  go_enter Tryz.func88, Tryz.ntmps88
  go_wp2_with (first
    | (go_at_call 117; refine (unhide hN _).mono ?_; rintro e w1 ⟨g, rfl, ho, hb1⟩
       have hk := hide (Blk.below (g := w.heap.size) (t := 116) (cs := #[.int .u32 0, .slice none 0 0]) (Blk.new rfl) hb1 (by simp))
       have f0 := (unhide hk).frozen 0; have f1 := (unhide hk).frozen 1; have r0 := (unhide hk).cell 0; have r1 := (unhide hk).cell 1
       simp at r0 r1
       replace ho := hide ho)
    | fail)
  refine ret_cod rfl w.heap.size (.int .u32 4294967295) (.slice (some ⟨g, 0, none⟩) n n) (.int .i64 0) rfl rfl (unhide hk).set2 rfl ⟨g, rfl, ?_, ?_⟩
  · have h3 := ownsRow_mono (unhide ho) (show w.heap.size ≤ _ by simp)
    exact own_far (own_far h3 (unhide hk) (by decide) 0 _) ((unhide hk).set 0 _) (by decide) 1 _
  · (repeat (first | with_reducible exact Below.refl _ _ | with_reducible assumption | with_reducible refine Below.drew ?_ | with_reducible refine bl_alloc ?_ _ | with_reducible refine bl_call ?_ (by assumption) | (focus (with_reducible refine Below.setCell ?_ ?_ _; rotate_left; focus (first | omega | (simp <;> omega)))) | fail))
set_option maxHeartbeats 1000000 in
theorem start_bad (n : Int) (hn : newN n = false) (w : World) :
    Calls Tryz.prog 88 #[.int .i64 n] w fun e w' => e = .returned (.tuple #[.agg #[.int .u32 0, .slice none 0 0], .int .i64 1]) ∧ Below w.heap.size w w' := by
  have hN := fun W => New_bad n hn W
  replace hN := hide hN
  clear hn
  go_enter Tryz.func88, Tryz.ntmps88
  go_wp2_with (first
    | (go_at_call 117; refine (unhide hN _).mono ?_; rintro e w1 ⟨rfl, hb1⟩
       have hk := hide (Blk.below (g := w.heap.size) (t := 116) (cs := #[.int .u32 0, .slice none 0 0]) (Blk.new rfl) hb1 (by simp))
       have f0 := (unhide hk).frozen 0; have f1 := (unhide hk).frozen 1; have r0 := (unhide hk).cell 0; have r1 := (unhide hk).cell 1
       simp at r0 r1)
    | fail)
  refine ret_cod rfl w.heap.size (.int .u32 0) (.slice none 0 0) (.int .i64 1) rfl rfl (unhide hk).set2 rfl ⟨rfl, ?_⟩
  (repeat (first | with_reducible exact Below.refl _ _ | with_reducible assumption | with_reducible refine Below.drew ?_ | with_reducible refine bl_alloc ?_ _ | with_reducible refine bl_call ?_ (by assumption) | (focus (with_reducible refine Below.setCell ?_ ?_ _; rotate_left; focus (first | omega | (simp <;> omega)))) | fail))
theorem put_len (s : Enc) (x : Bit) : (put s x).text.length ≤ s.text.length + 1 := by
  have := put1_len s x
  unfold put
  split
  · simp [shf, this]
  · omega
theorem putAll_len (s : Enc) (xs : List Bit) : (putAll s xs).text.length ≤ s.text.length + xs.length := by
  induction xs generalizing s with
  | nil => exact Nat.le_refl _
  | cons x r ih =>
    have h1 := ih (put s x)
    have h2 := put_len s x
    show (putAll (put s x) r).text.length ≤ _
    rw [List.length_cons]
    omega
theorem putAll_snoc (s : Enc) {bs : List Bit} {k : Nat} (h : k < bs.length) : putAll s (bs.take (k + 1)) = put (putAll s (bs.take k)) bs[k] := by
  rw [List.take_succ_eq_append_getElem h]
  unfold putAll
  rw [List.foldl_append]
  rfl
section
variable {base g gc cc gt ct : Nat} {w w' : World} {c : List Int} {span low : Int} {text : List Int}
theorem Wrt.alloc (h : Wrt base g gc cc gt ct w c span low text) (o : Obj) : Wrt base g gc cc gt ct (w.alloc o) c span low text := ⟨h.blk.alloc o, h.c.alloc o, h.text.alloc o⟩
theorem Wrt.drew (h : Wrt base g gc cc gt ct w c span low text) : Wrt base g gc cc gt ct w.drew c span low text := ⟨h.blk.drew, own_drew h.c, own_drew h.text⟩
end
theorem own_lt {w : World} {base : Nat} {e : TypeId} {size n c g : Nat} {xs : List Value} (h : w.ownsRow base e size (.slice (some ⟨g, 0, none⟩) n c) n xs) : g < w.heap.size ∧ base ≤ g := by
  rcases h.2 with ⟨h, _⟩ | ⟨g', cap, cur, e', hb, hh, _⟩
  · cases h
  · injection e' with e'
    injection e' with e'
    injection e' with e'
    subst e'
    exact ⟨Blk.lt (t := e) (cs := cur) hh, hb⟩
set_option maxHeartbeats 2000000 in
theorem Encode_bad (n : Int) (hn : newN n = false) (v : Value) (w : World) :
    Calls Tryz.prog 56 #[.int .i64 n, v] w fun e w' => e = .returned (.tuple #[.slice none 0 0, .int .i64 1]) ∧ Below w.heap.size w w' := by
  have hS := fun W => start_bad n hn W
  replace hS := hide hS
  clear hn
  go_enter Tryz.func56, Tryz.ntmps56
  go_wp2_with (first
    | (go_at_call 88; refine (unhide hS _).mono ?_; rintro e w1 ⟨rfl, hb1⟩)
    | fail)
  go_ret2
  exact ⟨rfl, by (repeat (first | with_reducible exact Below.refl _ _ | with_reducible assumption | with_reducible refine Below.drew ?_ | with_reducible refine bl_alloc ?_ _ | with_reducible refine bl_call ?_ (by assumption) | (focus (with_reducible refine Below.setCell ?_ ?_ _; rotate_left; focus (first | omega | (simp <;> omega)))) | fail))⟩
set_option maxHeartbeats 2000000 in
theorem Encode_none (n : Nat) (hn : n ≤ 1024) (lo : Nat) (v : Value) (bs : List Bit) (w : World) (h : Bts lo w.heap.size w v bs) (hl : bs.length ≤ 10000) (hin : bs.all (inB n) = false) :
    Calls Tryz.prog 56 #[.int .i64 n, v] w fun e w' => e = .returned (.tuple #[.slice none 0 0, .int .i64 4]) ∧ Below w.heap.size w w' := by
  have hS := fun W => start_good n hn W
  have hf := fun g sv A c W (hb : Below w.heap.size w W) hg => contains23_any g sv A n c lo v bs W (h.grow hb) hg
  obtain ⟨A, c, rfl, x1, x2, x3⟩ := h.open
  clear h x3
  replace hS := hide hS; replace hf := hide hf; replace hin := hide hin
  go_enter Tryz.func56, Tryz.ntmps56
  go_wp2_with (first
    | (go_at_call 88; refine (unhide hS _).mono ?_; rintro e w1 ⟨g1, rfl, ho, hb1⟩; replace ho := hide ho)
    | (go_at_call 89; refine (unhide hf w1.heap.size (.int .u32 4294967295) (some ⟨g1, 0, none⟩) n _ (by (repeat (first | with_reducible exact Below.refl _ _ | with_reducible assumption | with_reducible refine Below.drew ?_ | with_reducible refine bl_alloc ?_ _ | with_reducible refine bl_call ?_ (by assumption) | (focus (with_reducible refine Below.setCell ?_ ?_ _; rotate_left; focus (first | omega | (simp <;> omega)))) | fail))) (Blk.new rfl)).mono ?_; rintro e w2 ⟨rfl, hb2⟩; rw [unhide hin])
    | fail)
  go_ret2
  exact ⟨rfl, by (repeat (first | with_reducible exact Below.refl _ _ | with_reducible assumption | with_reducible refine Below.drew ?_ | with_reducible refine bl_alloc ?_ _ | with_reducible refine bl_call ?_ (by assumption) | (focus (with_reducible refine Below.setCell ?_ ?_ _; rotate_left; focus (first | omega | (simp <;> omega)))) | fail))⟩
end Go.Proofs.YthkccpemgmpadaaGreatDoor.P
namespace Go.Proofs.YthkccpemgmpadaaGreatDoor.P
set_option maxRecDepth 100000
open Go.RowKit
theorem mk1 (W : World) : (Instr.makeSlice 29 (.int .i64 1) (.int .i64 1)).run Tryz.prog W = .ok (.slice (some ⟨W.heap.size, 0, none⟩) 1 1) (W.alloc (.cells #[.int .u8 0] 5)) := by
  obtain ⟨i5, hi5, iz0, iz1, iz2⟩ := info5'
  have := run_mk (P := Tryz.prog) 29 5 i5 _ 1 Tryz.underlying29 hi5 iz0 iz1 1 (by rw [iz2]; omega) (by omega) W
  have hz : (madeCells (Value.int .u8 0).cells (1 * 1)).toList = List.replicate (1 * 1) (.int .u8 0) := toList_madeCells_one _ _
  have hz' : madeCells (Value.int .u8 0).cells (1 * 1) = #[.int .u8 0] := by rw [← Array.toArray_toList (xs := madeCells (Value.int .u8 0).cells (1 * 1)), hz]; rfl
  rw [hz'] at this
  exact this
theorem own_text {w : World} {base g : Nat} (h : Blk w g 5 #[.int .u8 0]) (hb : base ≤ g) : w.ownsRow base 5 1 (.slice (some ⟨g, 0, none⟩) 1 1) 1 (([0] : List Int).flatMap byc) :=
  ⟨rfl, .inr ⟨g, 1, _, rfl, hb, h, Nat.le_refl _, by simp [maxLen], rfl, rfl⟩⟩
theorem wrA {w : World} {base gc n : Nat} (h : w.ownsRow base 3 1 (.slice (some ⟨gc, 0, none⟩) n n) n ((List.replicate n (1024 : Int)).flatMap ivc)) (hs : base ≤ w.heap.size) :
    Wrt base (w.heap.size + 1) gc n w.heap.size 1 ((w.alloc (.cells #[.int .u8 0] 5)).alloc (.cells #[.int .u32 4294967295, .slice (some ⟨gc, 0, none⟩) n n, .slice (some ⟨w.heap.size, 0, none⟩) 1 1, .int .u32 0] 125)).drew (start0 n).c (start0 n).span (start0 n).low (start0 n).text := by
  have e : (start0 (n : Int)).c = List.replicate n 1024 := by simp [start0]
  refine ⟨?_, ?_, ?_⟩
  · rw [e, List.length_replicate]
    exact (Blk.new (by simp)).drew
  · rw [e, List.length_replicate]
    exact own_drew ((h.alloc _).alloc _)
  · exact own_drew ((own_text (Blk.new rfl) hs).alloc _)
theorem wrB {w : World} {base gc n : Nat} (h : w.ownsRow base 3 1 (.slice (some ⟨gc, 0, none⟩) n n) n ((List.replicate n (1024 : Int)).flatMap ivc)) (hs : base ≤ w.heap.size) :
    Wrt base w.heap.size gc n (w.heap.size + 1) 1 ((w.alloc (.cells #[.int .u32 4294967295, .slice (some ⟨gc, 0, none⟩) n n, .slice (some ⟨w.heap.size + 1, 0, none⟩) 1 1, .int .u32 0] 125)).alloc (.cells #[.int .u8 0] 5)).drew (start0 n).c (start0 n).span (start0 n).low (start0 n).text := by
  have e : (start0 (n : Int)).c = List.replicate n 1024 := by simp [start0]
  refine ⟨?_, ?_, ?_⟩
  · rw [e, List.length_replicate]
    exact ((Blk.new rfl).alloc _).drew
  · rw [e, List.length_replicate]
    exact own_drew ((h.alloc _).alloc _)
  · exact own_drew (own_text (Blk.new (by simp)) (by omega))
set_option maxHeartbeats 4000000 in
theorem Encode_good (n : Nat) (hn : n ≤ 1024) (lo : Nat) (v : Value) (bs : List Bit) (w : World) (h : Bts lo w.heap.size w v bs) (hl : bs.length ≤ 10000) (hin : bs.all (inB n) = true) :
    Calls Tryz.prog 56 #[.int .i64 n, v] w fun e w' => ∃ g c, e = .returned (.tuple #[.slice (some ⟨g, 0, none⟩) (endT (putAll (start0 n) bs)).length c, .int .i64 0]) ∧
      w'.ownsRow w.heap.size 5 1 (.slice (some ⟨g, 0, none⟩) (endT (putAll (start0 n) bs)).length c) (endT (putAll (start0 n) bs)).length ((endT (putAll (start0 n) bs)).flatMap byc) ∧ Below w.heap.size w w' := by
  generalize hTT : endT (putAll (start0 (n : Int)) bs) = T
  replace hTT := hide hTT
  have hS := fun W => start_good n hn W
  have hf := fun g sv A c W (hb : Below w.heap.size w W) hg => contains23_any g sv A n c lo v bs W (h.grow hb) hg
  have hx : ∀ x ∈ bs, inB n x = true := by simpa using hin
  obtain ⟨A, c, rfl, x1, x2, x3⟩ := h.open
  clear h
  replace hS := hide hS; replace hf := hide hf; replace hin := hide hin; replace x3 := hide x3; replace hx := hide hx
  go_enter Tryz.func56, Tryz.ntmps56
  go_wp2_with (first
    | (go_at_call 88; refine (unhide hS _).mono ?_; rintro e w1 ⟨gc, rfl, ho, hb1⟩; replace ho := hide ho)
    | (go_at_call 89; refine (unhide hf w1.heap.size (.int .u32 4294967295) (some ⟨gc, 0, none⟩) n _ (by (repeat (first | with_reducible exact Below.refl _ _ | with_reducible assumption | with_reducible refine Below.drew ?_ | with_reducible refine bl_alloc ?_ _ | with_reducible refine bl_call ?_ (by assumption) | (focus (with_reducible refine Below.setCell ?_ ?_ _; rotate_left; focus (first | omega | (simp <;> omega)))) | fail))) (Blk.new rfl)).mono ?_; rintro e w2 ⟨rfl, hb2⟩; rw [unhide hin])
    | fail)
  have hK6 := (Blk.new (w := w1) (g := w1.heap.size) (t := 116) (cs := #[.int .u32 4294967295, .slice (some ⟨gc, 0, none⟩) n n]) rfl).below hb2 (by simp)
  have ho2 := own_below ((unhide ho).alloc (.cells #[.int .u32 4294967295, .slice (some ⟨gc, 0, none⟩) n n] 116)) hb2 (Nat.le_refl _)
  have hB2 : Below w.heap.size w w2 := by (repeat (first | with_reducible exact Below.refl _ _ | with_reducible assumption | with_reducible refine Below.drew ?_ | with_reducible refine bl_alloc ?_ _ | with_reducible refine bl_call ?_ (by assumption) | (focus (with_reducible refine Below.setCell ?_ ?_ _; rotate_left; focus (first | omega | (simp <;> omega)))) | fail))
  have y0 : w2.cell? ⟨w1.heap.size, 0, none⟩ = some (.int .u32 4294967295) := hK6.cell 0
  have y1 : w2.cell? ⟨w1.heap.size, 1, none⟩ = some (.slice (some ⟨gc, 0, none⟩) n n) := hK6.cell 1
  have y2 := hK6.lt
  generalize w1.heap.size = g6 at *
  replace ho2 := hide ho2; replace hB2 := hide hB2
  clear hb2 ho hb1 hK6
  go_cut [8] (fun s8 wx => ∃ (g gt : Nat), s8 = .pointer (some ⟨g, 0, none⟩) ∧ Hid (Wrt w.heap.size g gc n gt 1 wx (start0 n).c (start0 n).span (start0 n).low (start0 n).text) ∧ Hid (Below w.heap.size w wx) ∧ Hid (w.heap.size ≤ g))
  case first =>
    have hmk := mk1
    go_region_held3 (fun W => W.cell? ⟨g6, 0, none⟩ = some (.int .u32 4294967295) ∧ W.cell? ⟨g6, 1, none⟩ = some (.slice (some ⟨gc, 0, none⟩) n n)) (first | exact ⟨by assumption, by assumption⟩ | exact ⟨by go_simp, by go_simp⟩) (first | fail)
    all_goals
      go_wp2_with fail
      go_meet
      first
        | exact ⟨_, _, rfl, hide (wrA (unhide ho2) (unhide hB2).size), hide (by have hB2' := unhide hB2; (repeat (first | with_reducible exact Below.refl _ _ | with_reducible assumption | with_reducible refine Below.drew ?_ | with_reducible refine bl_alloc ?_ _ | with_reducible refine bl_call ?_ (by assumption) | (focus (with_reducible refine Below.setCell ?_ ?_ _; rotate_left; focus (first | omega | (simp <;> omega)))) | fail))), hide (by have := (unhide hB2).size; omega)⟩
        | exact ⟨_, _, rfl, hide (wrB (unhide ho2) (unhide hB2).size), hide (by have hB2' := unhide hB2; (repeat (first | with_reducible exact Below.refl _ _ | with_reducible assumption | with_reducible refine Below.drew ?_ | with_reducible refine bl_alloc ?_ _ | with_reducible refine bl_call ?_ (by assumption) | (focus (with_reducible refine Below.setCell ?_ ?_ _; rotate_left; focus (first | omega | (simp <;> omega)))) | fail))), hide (by have := (unhide hB2).size; omega)⟩
  case rest =>
    clear y0 y1 y2 ho2 hB2
    obtain ⟨g, gt, rfl, hW, hB, hg⟩ := hcut
    go_wp2_with fail
    go_loopw [30] (fun i wr => ∃ (k : Nat), k ≤ bs.length ∧ i = .int .i64 k ∧ Hid (∃ gt ct, Wrt w.heap.size g gc n gt ct wr (putAll (start0 n) (bs.take k)).c (putAll (start0 n) (bs.take k)).span (putAll (start0 n) (bs.take k)).low (putAll (start0 n) (bs.take k)).text) ∧ Hid (Below w.heap.size w wr)) (fun i _ => bs.length - (intOf i).toNat)
    case atStart => exact ⟨0, Nat.zero_le _, rfl, hide ⟨gt, 1, unhide hW⟩, hB⟩
    case round =>
      clear hW hB
      obtain ⟨k, hk, rfl, hW, hB⟩ := hrel
      obtain ⟨gt, ct, hW⟩ := unhide hW
      have hinv := (putAll_ok (xs := bs.take k) (start_ok (n := n) (by omega)) (by rw [start_c]; exact fun x hxm => unhide hx x (List.mem_of_mem_take hxm))).1
      have hlen : (putAll (start0 n) (bs.take k)).text.length ≤ 1 + k := by
        have := putAll_len (start0 n) (bs.take k)
        have h1 : (start0 (n : Int)).text.length = 1 := rfl
        rw [List.length_take, h1] at this
        omega
      have hcl : (putAll (start0 n) (bs.take k)).c.length = n := by rw [putAll_c, start_c]; simp
      by_cases hlt : k < bs.length
      · obtain ⟨b, off, rfl, g1, g2, q0, q1⟩ := unhide x3 k hlt
        have c0 := ((unhide hB).cell (p := ⟨b, off + k * 2, none⟩) g2).trans q0
        have c1 := ((unhide hB).cell (p := ⟨b, off + k * 2 + 1, none⟩) g2).trans q1
        have hxk := inB_iff.1 (unhide hx bs[k] (List.getElem_mem hlt))
        have hnext := putAll_snoc (start0 n) hlt
        obtain ⟨m, hm⟩ : ∃ m : Nat, bs[k].at_ = (m : Int) := ⟨bs[k].at_.toNat, by omega⟩
        obtain ⟨z, hz⟩ : ∃ z, z = bs[k].b := ⟨_, rfl⟩
        have hbk : bs[k] = ⟨m, z⟩ := by rw [hz, ← hm]
        rw [hm] at c0 hxk
        rw [← hz] at c1
        rw [hbk] at hnext
        generalize putAll (start0 n) (bs.take k) = s at *
        have hP := fun W h => put_any w.heap.size g gc n gt ct m z s W h (by rw [hcl]; omega) hinv.toOkE (by omega)
        rw [← hnext] at hP
        replace hP := hide hP; replace hW := hide hW; replace hnext := hide hnext; replace hbk := hide hbk; replace hz := hide hz
        have hgt := (own_lt (unhide hW).text).2
        have hgc := (own_lt (unhide hW).c).2
        clear q0 q1 hm hinv hlen
        replace hcl := hide hcl; replace hgt := hide hgt; replace hgc := hide hgc
        go_wp2_with (first
          | (go_at_call 92
             refine (unhide hP _ ((unhide hW).alloc _)).mono ?_
             rintro e w7 ⟨rfl, gt', ct', hW7, hB7⟩
             have hB8 : Below w.heap.size w w7 := ((unhide hB).alloc (unhide hB).size _).trans (hB7.below (by
               have h1 := unhide hg; have h2 := unhide hgt; have h3 := unhide hgc
               simp only [List.mem_cons, List.not_mem_nil, or_false]
               rintro q (rfl | rfl | rfl) <;> assumption) (by have := (unhide hB).size; simp; omega))
             replace hW7 := hide hW7; replace hB7 := hide hB7; replace hB8 := hide hB8)
          | fail)
        go_roundw
        case rel => exact ⟨k + 1, by omega, by go_num, hide ⟨gt', ct', unhide hW7⟩, hB8⟩
        case measure => simp [intOf]; omega
      · obtain rfl : k = bs.length := by omega
        rw [List.take_length] at hW hinv hlen
        have hE := fun W h => end_any w.heap.size g gc n gt ct (putAll (start0 n) bs).c (putAll (start0 n) bs).span (putAll (start0 n) bs).low (putAll (start0 n) bs).text W h hinv.low (by omega) hinv.one
        have hgt := (own_lt hW.text).2
        have hfin : (endT (putAll (start0 n) bs)).length = (putAll (start0 n) bs).text.length + 4 := endT_len _
        have hfin2 : (putAll (start0 n) bs).text ++ be4 (putAll (start0 n) bs).low = endT (putAll (start0 n) bs) := rfl
        rw [hfin2, ← hfin, unhide hTT] at hE
        replace hE := hide hE; replace hW := hide hW; replace hgt := hide hgt
        clear hlen hinv hcl hfin hfin2
        go_wp2_with (first
          | (go_at_call 93
             refine (unhide hE _ (unhide hW)).mono ?_
             rintro e w7 ⟨g7, c7, rfl, ho7, hB7⟩
             have hB8 : Below w.heap.size w w7 := (unhide hB).trans (hB7.below (by
               have h2 := unhide hgt
               simp only [List.mem_cons, List.not_mem_nil, or_false]
               rintro q rfl; assumption) (by have := (unhide hB).size; omega))
             replace ho7 := hide ho7; replace hB8 := hide hB8)
          | fail)
        go_ret2
        exact ⟨g7, c7, rfl, unhide ho7, unhide hB8⟩
end Go.Proofs.YthkccpemgmpadaaGreatDoor.P
