import Derived.Test.YthmhhgodjpgjnaaW25
namespace Go.Proofs.Ythmhhgodjpgjnaa
open Go.RowKit

/-- The place of the first one that is such, from 'k' on; -1, if none is. -/
def firstI {α : Type} (p : α → Bool) : Nat → List α → Int
  | _, [] => -1
  | k, f :: r => if p f then (k : Int) else firstI p (k + 1) r
theorem firstI_any {α : Type} (p : α → Bool) (k : Nat) (l : List α) : decide (0 ≤ firstI p k l) = l.any p := by
  induction l generalizing k with
  | nil => simp [firstI]
  | cons x r ih =>
    rw [firstI]
    cases h : p x
    · simp [h, ih]
    · simp [h]


set_option maxHeartbeats 1000000 in
/-- Encode's closure: is a bit by none of the chances? -/
theorem out_any (x : Bit) (g : Nat) (sv : Value) (A : Option Addr) (n c : Nat) (w : World) (hg : Blk w g 57 #[sv, .slice A n c]) :
    Calls Try.prog 24 #[btV x, .pointer (some ⟨g, 0, none⟩)] w fun e w' => e = .returned (.bool (!inB n x)) ∧ Below w.heap.size w w' := by
  obtain ⟨a, b⟩ := x
  have hh := fun W (hb : Below w.heap.size w W) => has_any g n A c a W ((hg.below hb hg.lt).cell 1)
  have y1 := hg.lt
  replace hh := hide hh
  simp only [btV]
  go_enter Try.func24, Try.ntmps24
  go_wp2_with (go_at_call 25; refine (unhide hh _ (by (repeat (first | with_reducible exact Below.refl _ _ | with_reducible assumption | with_reducible refine Below.drew ?_ | with_reducible refine bl_alloc ?_ _ | with_reducible refine bl_call ?_ (by assumption) | (focus (with_reducible refine Below.setCell ?_ ?_ _; rotate_left; focus (first | omega | (simp <;> omega)))) | fail)))).mono ?_; rintro e w1 ⟨rfl, rfl⟩)
  go_ret
  exact ⟨ret_b rfl (by simp [inB]), by (repeat (first | with_reducible exact Below.refl _ _ | with_reducible assumption | with_reducible refine Below.drew ?_ | with_reducible refine bl_alloc ?_ _ | with_reducible refine bl_call ?_ (by assumption) | (focus (with_reducible refine Below.setCell ?_ ?_ _; rotate_left; focus (first | omega | (simp <;> omega)))) | fail))⟩

set_option maxHeartbeats 1000000 in
theorem index38_any (g : Nat) (sv : Value) (A' : Option Addr) (n c' : Nat) (lo : Nat) (v : Value) (l : List Bit) (w : World) (h : Bts lo w.heap.size w v l) (hg : Blk w g 57 #[sv, .slice A' n c']) :
    Calls Try.prog 38 #[v, .func (.func 24) #[] #[.pointer (some ⟨g, 0, none⟩)]] w fun e w' => e = .returned (.int .i64 (firstI (fun x => !inB n x) 0 l)) ∧ Below w.heap.size w w' := by
  obtain ⟨A, c, rfl, h1, h2, h3⟩ := h.open
  have hf := fun x W (hb : Below w.heap.size w W) => out_any x g sv A' n c' W (hg.below hb hg.lt)
  replace h3 := hide h3; replace hf := hide hf; clear h hg
  go_enter Try.func38, Try.ntmps38
  go_wp2
  go_loopw [8] (fun i wr => ∃ (k : Nat), k ≤ l.length ∧ i = .int .i64 k ∧ Hid (firstI (fun x => !inB n x) 0 l = firstI (fun x => !inB n x) k (l.drop k)) ∧ Hid (Below w.heap.size w wr)) (fun i _ => l.length - (intOf i).toNat)
  case atStart => exact ⟨0, Nat.zero_le _, rfl, hide (by simp), hide (by (repeat (first | with_reducible exact Below.refl _ _ | with_reducible assumption | with_reducible refine Below.drew ?_ | with_reducible refine bl_alloc ?_ _ | with_reducible refine bl_call ?_ (by assumption) | (focus (with_reducible refine Below.setCell ?_ ?_ _; rotate_left; focus (first | omega | (simp <;> omega)))) | fail)))⟩
  case round =>
    obtain ⟨k, hk', rfl, hw, hb⟩ := hrel
    by_cases hlt : k < l.length
    · obtain ⟨b, off, rfl, g1, g2, q0, q1⟩ := unhide h3 k hlt
      have c0 := ((unhide hb).cell (p := ⟨b, off + k * 2, none⟩) g2).trans q0
      have c1 := ((unhide hb).cell (p := ⟨b, off + k * 2 + 1, none⟩) g2).trans q1
      have hd : l.drop k = l[k] :: l.drop (k + 1) := List.drop_eq_getElem_cons hlt
      have hfk := fun W hW => unhide hf l[k] W hW
      generalize l[k] = f at *
      obtain ⟨fa, fl⟩ := f
      simp only [btV] at c0 c1 hfk
      replace hd := hide hd; replace hfk := hide hfk
      clear q0 q1 g1
      cases hp : inB n ⟨fa, fl⟩ with
      | false =>
        go_wp2_with (go_at_call 24; refine (unhide hfk _ (by have hb0 := unhide hb; (repeat (first | with_reducible exact Below.refl _ _ | with_reducible assumption | with_reducible refine Below.drew ?_ | with_reducible refine bl_alloc ?_ _ | with_reducible refine bl_call ?_ (by assumption) | (focus (with_reducible refine Below.setCell ?_ ?_ _; rotate_left; focus (first | omega | (simp <;> omega)))) | fail)))).mono ?_; rintro e w1 ⟨rfl, hb1⟩; rw [hp])
        have hb0 := unhide hb
        go_ret
        refine ⟨ret_i rfl ?_, by (repeat (first | with_reducible exact Below.refl _ _ | with_reducible assumption | with_reducible refine Below.drew ?_ | with_reducible refine bl_alloc ?_ _ | with_reducible refine bl_call ?_ (by assumption) | (focus (with_reducible refine Below.setCell ?_ ?_ _; rotate_left; focus (first | omega | (simp <;> omega)))) | fail))⟩
        rw [unhide hw, unhide hd, firstI, if_pos (by simp [hp])]
      | true =>
        go_wp2_with (go_at_call 24; refine (unhide hfk _ (by have hb0 := unhide hb; (repeat (first | with_reducible exact Below.refl _ _ | with_reducible assumption | with_reducible refine Below.drew ?_ | with_reducible refine bl_alloc ?_ _ | with_reducible refine bl_call ?_ (by assumption) | (focus (with_reducible refine Below.setCell ?_ ?_ _; rotate_left; focus (first | omega | (simp <;> omega)))) | fail)))).mono ?_; rintro e w1 ⟨rfl, hb1⟩; rw [hp])
        have hb0 := unhide hb
        go_roundw
        case rel =>
          refine ⟨k + 1, by omega, by go_num, hide ?_, hide (by (repeat (first | with_reducible exact Below.refl _ _ | with_reducible assumption | with_reducible refine Below.drew ?_ | with_reducible refine bl_alloc ?_ _ | with_reducible refine bl_call ?_ (by assumption) | (focus (with_reducible refine Below.setCell ?_ ?_ _; rotate_left; focus (first | omega | (simp <;> omega)))) | fail)))⟩
          rw [unhide hw, unhide hd, firstI, if_neg (by simp [hp])]
        case measure => simp [intOf]; omega
    · have hb0 := unhide hb
      go_wp2
      go_ret
      refine ⟨ret_i rfl ?_, by (repeat (first | with_reducible exact Below.refl _ _ | with_reducible assumption | with_reducible refine Below.drew ?_ | with_reducible refine bl_alloc ?_ _ | with_reducible refine bl_call ?_ (by assumption) | (focus (with_reducible refine Below.setCell ?_ ?_ _; rotate_left; focus (first | omega | (simp <;> omega)))) | fail))⟩
      rw [unhide hw, List.drop_of_length_le (by omega)]
      rfl

set_option maxHeartbeats 400000 in
theorem contains23_any (g : Nat) (sv : Value) (A' : Option Addr) (n c' : Nat) (lo : Nat) (v : Value) (l : List Bit) (w : World) (h : Bts lo w.heap.size w v l) (hg : Blk w g 57 #[sv, .slice A' n c']) :
    Calls Try.prog 23 #[v, .func (.func 24) #[] #[.pointer (some ⟨g, 0, none⟩)]] w fun e w' => e = .returned (.bool (!l.all (inB n))) ∧ Below w.heap.size w w' := by
  have hx := index38_any g sv A' n c' lo v l w h hg
  have hd := firstI_any (fun x => !inB n x) 0 l
  have hd2 : (l.any fun x => !inB n x) = !l.all (inB n) := by rw [List.any_eq_not_all_not]; simp
  rw [hd2] at hd
  obtain ⟨A, c, rfl, h1, h2, h3⟩ := h.open
  clear h h3 hd2
  replace hx := hide hx; replace hd := hide hd
  go_enter Try.func23, Try.ntmps23
  go_wp2_with (go_at_call 38; refine (unhide hx).mono ?_; rintro e w1 ⟨rfl, hb1⟩)
  go_ret
  exact ⟨ret_b rfl (unhide hd), hb1⟩


theorem own_of_blk {w : World} {g base n : Nat} {l : List Int} (h : Blk w g 3 (l.flatMap ivc).toArray) (hb : base ≤ g) (hn : n = l.length) (hl : l.length ≤ maxLen) : w.ownsRow base 3 1 (.slice (some ⟨g, 0, none⟩) n n) n (l.flatMap ivc) := by
  subst hn
  have := flat_len ivc_len l
  refine ⟨this, .inr ⟨g, l.length, _, rfl, hb, h, Nat.le_refl _, hl, by simpa using this, ?_⟩⟩
  rw [List.take_of_length_le (by simp [this])]

set_option maxHeartbeats 1000000 in
theorem New_own (n : Nat) (hn : n ≤ 1024) (w : World) :
    Calls Try.prog 37 #[.int .i64 n] w fun e w' => ∃ g, e = .returned (.tuple #[.slice (some ⟨g, 0, none⟩) n n, .int .i64 0]) ∧ w'.ownsRow w.heap.size 3 1 (.slice (some ⟨g, 0, none⟩) n n) n ((List.replicate n (1024 : Int)).flatMap ivc) ∧ Below w.heap.size w w' := by
  have hR := fun g W hg => repeat_any n hn g W hg
  have k0 : ¬ (n : Int) < 0 := by omega
  have k1 : ¬ (1024 : Int) < (n : Int) := by omega
  replace hR := hide hR
  go_enter Try.func37, Try.ntmps37
  go_wp2_with (first
    | (go_at_call 43; refine (unhide hR _ _ (Blk.new rfl)).mono ?_; rintro e w1 ⟨g, rfl, hB, hg, hb1⟩; replace hB := hide hB)
    | fail)
  go_ret2
  have hB' := unhide hB
  rw [rep_flat] at hB'
  refine ⟨g, rfl, own_of_blk (l := List.replicate n 1024) hB' ?_ (by simp) (by simp [maxLen]; omega), by (repeat (first | with_reducible exact Below.refl _ _ | with_reducible assumption | with_reducible refine Below.drew ?_ | with_reducible refine bl_alloc ?_ _ | with_reducible refine bl_call ?_ (by assumption) | (focus (with_reducible refine Below.setCell ?_ ?_ _; rotate_left; focus (first | omega | (simp <;> omega)))) | fail))⟩
  simp at hg
  omega

theorem ret_cod {fn : Func} {p u : Tmp} {R : Ending → World → Prop} {a : Act} {w : World} (h : fn.results = #[.cell p 57, .tmp u]) (g : Nat) (x y : Value) (v : Value)
    (hp : a.tmps.getD p undef = .pointer (some ⟨g, 0, none⟩)) (hu : a.tmps.getD u undef = v) (hg : Blk w g 57 #[x, y]) (hd : a.defers = []) (hR : R (.returned (.tuple #[.agg #[x, y], v])) w) : bodyPost Try.prog fn R .ret a w := by
  refine bodyPost_ret (v := .tuple #[.agg #[x, y], v]) ?_ hd hR
  rw [results_cell_tmp h, hp, hu]
  have hl := run_loadVar_row (P := Try.prog) w g 57 57 #[x, y] (0, 0) _ hg Try.underlying57 rfl ((by kernel_rfl : (Try.prog.info? 57).map (·.size) = some 2))
  simp [asAddr, Result.andThen, hl]

set_option maxHeartbeats 1000000 in
theorem start_good (n : Nat) (hn : n ≤ 1024) (w : World) :
    Calls Try.prog 22 #[.int .i64 n] w fun e w' => ∃ g, e = .returned (.tuple #[.agg #[.int .u32 4294967295, .slice (some ⟨g, 0, none⟩) n n], .int .i64 0]) ∧ w'.ownsRow w.heap.size 3 1 (.slice (some ⟨g, 0, none⟩) n n) n ((List.replicate n (1024 : Int)).flatMap ivc) ∧ Below w.heap.size w w' := by
  have hN := fun W => New_own n hn W
  replace hN := hide hN
  go_enter Try.func22, Try.ntmps22
  go_wp2_with (first
    | (go_at_call 37; refine (unhide hN _).mono ?_; rintro e w1 ⟨g, rfl, ho, hb1⟩
       have hk := hide (Blk.below (g := w.heap.size) (t := 57) (cs := #[.int .u32 0, .slice none 0 0]) (Blk.new rfl) hb1 (by simp))
       have f0 := (unhide hk).frozen 0; have f1 := (unhide hk).frozen 1; have r0 := (unhide hk).cell 0; have r1 := (unhide hk).cell 1
       simp at r0 r1
       replace ho := hide ho)
    | fail)
  refine ret_cod rfl w.heap.size (.int .u32 4294967295) (.slice (some ⟨g, 0, none⟩) n n) (.int .i64 0) rfl rfl (unhide hk).set2 rfl ⟨g, rfl, ?_, ?_⟩
  · have h3 := ownsRow_mono (unhide ho) (show w.heap.size ≤ _ by simp)
    exact own_far (own_far h3 (unhide hk) (by decide) 0 _) ((unhide hk).set 0 _) (by decide) 1 _
  · (repeat (first | with_reducible exact Below.refl _ _ | with_reducible assumption | with_reducible refine Below.drew ?_ | with_reducible refine bl_alloc ?_ _ | with_reducible refine bl_call ?_ (by assumption) | (focus (with_reducible refine Below.setCell ?_ ?_ _; rotate_left; focus (first | omega | (simp <;> omega)))) | fail))

set_option maxHeartbeats 1000000 in
theorem start_bad (n : Int) (hn : newN n = false) (w : World) :
    Calls Try.prog 22 #[.int .i64 n] w fun e w' => e = .returned (.tuple #[.agg #[.int .u32 0, .slice none 0 0], .int .i64 1]) ∧ Below w.heap.size w w' := by
  have hN := fun W => New_bad n hn W
  replace hN := hide hN
  clear hn
  go_enter Try.func22, Try.ntmps22
  go_wp2_with (first
    | (go_at_call 37; refine (unhide hN _).mono ?_; rintro e w1 ⟨rfl, hb1⟩
       have hk := hide (Blk.below (g := w.heap.size) (t := 57) (cs := #[.int .u32 0, .slice none 0 0]) (Blk.new rfl) hb1 (by simp))
       have f0 := (unhide hk).frozen 0; have f1 := (unhide hk).frozen 1; have r0 := (unhide hk).cell 0; have r1 := (unhide hk).cell 1
       simp at r0 r1)
    | fail)
  refine ret_cod rfl w.heap.size (.int .u32 0) (.slice none 0 0) (.int .i64 1) rfl rfl (unhide hk).set2 rfl ⟨rfl, ?_⟩
  (repeat (first | with_reducible exact Below.refl _ _ | with_reducible assumption | with_reducible refine Below.drew ?_ | with_reducible refine bl_alloc ?_ _ | with_reducible refine bl_call ?_ (by assumption) | (focus (with_reducible refine Below.setCell ?_ ?_ _; rotate_left; focus (first | omega | (simp <;> omega)))) | fail))
end Go.Proofs.Ythmhhgodjpgjnaa
