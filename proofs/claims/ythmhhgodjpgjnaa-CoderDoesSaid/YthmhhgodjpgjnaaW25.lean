import Derived.Test.YthmhhgodjpgjnaaW24
import Derived.Test.YthmhhgodjpgjnaaW17
namespace Go.Proofs.Ythmhhgodjpgjnaa
open Go.RowKit

theorem put_any (base g gc cc gt ct k : Nat) (b : Bool) (s : Enc) (w : World) (hW : Wrt base g gc cc gt ct w s.c s.span s.low s.text) (hk : k < s.c.length) (h : OkE s) (hl : s.text.length ≤ 1000000) :
    Calls Try.prog 26 #[.pointer (some ⟨g, 0, none⟩), .agg #[.int .i64 k, .bool b]] w fun e w' => e = .returned (.tuple #[]) ∧ ∃ gt' ct', Wrt base g gc cc gt' ct' w' (put s ⟨k, b⟩).c (put s ⟨k, b⟩).span (put s ⟨k, b⟩).low (put s ⟨k, b⟩).text ∧ But [g, gc, gt] w w' := by
  cases b
  · exact put_false base g gc cc gt ct k s w hW hk h hl
  · exact put_true base g gc cc gt ct k s w hW hk h hl

set_option maxHeartbeats 4000000 in
/-- 'end'. -/
theorem end_any (base g gc cc gt ct : Nat) (c : List Int) (span low : Int) (text : List Int) (w : World) (hW : Wrt base g gc cc gt ct w c span low text) (hlow : 0 ≤ low ∧ low < 4294967296) (hl : text.length ≤ 1000000) (ht0 : 0 < text.length) :
    Calls Try.prog 27 #[.pointer (some ⟨g, 0, none⟩)] w fun e w' => ∃ g' c', e = .returned (.slice (some ⟨g', 0, none⟩) (text.length + 4) c') ∧ w'.ownsRow base 5 1 (.slice (some ⟨g', 0, none⟩) (text.length + 4) c') (text.length + 4) ((text ++ be4 low).flatMap byc) ∧ But [gt] w w' := by
  obtain ⟨hK, hc, ht⟩ := hW
  obtain ⟨i5, hi5, iz0, iz1, iz2⟩ := info5'
  have j1 : IntKind.u8.wrap (low / 16777216) = low / 16777216 := IntWalk.u8_in _ (by omega)
  have j2 : IntKind.u8.wrap (low / 65536) = low / 65536 % 256 := IntKind.wrap_u8 _
  have j3 : IntKind.u8.wrap (low / 256) = low / 256 % 256 := IntKind.wrap_u8 _
  have j4 : IntKind.u8.wrap low = low % 256 := IntKind.wrap_u8 _
  have hbs : base ≤ w.heap.size := by
    obtain ⟨_, cur, e1, h2, hh⟩ := own_pos ht ht0
    have := hh.lt
    omega
  have c2 : w.cell? ⟨g, 2, none⟩ = some (.slice (some ⟨gt, 0, none⟩) text.length ct) := hK.cell 2
  have c3 : w.cell? ⟨g, 3, none⟩ = some (.int .u32 low) := hK.cell 3
  obtain ⟨N, hN⟩ : ∃ N : List Value, N = [.int .u8 (low / 16777216), .int .u8 (low / 65536 % 256), .int .u8 (low / 256 % 256), .int .u8 (low % 256)] := ⟨_, rfl⟩
  have oA := own_drew (ht.alloc (.cells #[.int .u8 (low / 16777216), .int .u8 (low / 65536 % 256), .int .u8 (low / 256 % 256), .int .u8 (low % 256)] 5))
  have sA : SrcOk (w.alloc (.cells #[.int .u8 (low / 16777216), .int .u8 (low / 65536 % 256), .int .u8 (low / 256 % 256), .int .u8 (low % 256)] 5)).drew (some ⟨w.heap.size, 0, none⟩) 4 N := by
    rw [hN]
    exact SrcOk.blk (cur := [.int .u8 (low / 16777216), .int .u8 (low / 65536 % 256), .int .u8 (low / 256 % 256), .int .u8 (low % 256)]) (Blk.drew (Blk.new rfl)) fun j u hu => by simpa using hu
  have s1 : ∀ u ∈ N, u.oneCell' = true := by rw [hN]; intro u hu; simp at hu; rcases hu with rfl | rfl | rfl | rfl <;> rfl
  have sl : N.length = 4 * 1 := by rw [hN]; rfl
  have b1 : text.length + 4 ≤ maxLen := by simp only [maxLen]; omega
  have b2 : (text.length + 4) * 1 ≤ 140737488355328 := by omega
  have b3 : base ≤ (w.alloc (.cells #[.int .u8 (low / 16777216), .int .u8 (low / 65536 % 256), .int .u8 (low / 256 % 256), .int .u8 (low % 256)] 5)).drew.heap.size := by simp; omega
  have hfin : text.flatMap byc ++ N = (text ++ be4 low).flatMap byc := by rw [hN, List.flatMap_append]; rfl
  have hlt : g < w.heap.size := hK.lt
  have KA := (hK.alloc (.cells #[.int .u8 (low / 16777216), .int .u8 (low / 65536 % 256), .int .u8 (low / 256 % 256), .int .u8 (low % 256)] 5)).drew
  have hB := (But.refl [gt] w).alloc (.cells #[.int .u8 (low / 16777216), .int .u8 (low / 65536 % 256), .int .u8 (low / 256 % 256), .int .u8 (low % 256)] 5) |>.drew
  replace KA := hide KA; replace hB := hide hB
  replace oA := hide oA; replace sA := hide sA; replace s1 := hide s1; replace sl := hide sl; replace b1 := hide b1; replace b2 := hide b2; replace b3 := hide b3; replace hfin := hide hfin; replace hN := hide hN
  clear ht hc hK
  go_enter Try.func27, Try.ntmps27
  go_wp2_with fail
  go_region_held3 (fun W => W.cell? ⟨g, 2, none⟩ = some (.slice (some ⟨gt, 0, none⟩) text.length ct) ∧ W.cell? ⟨g, 3, none⟩ = some (.int .u32 low)) (first | exact ⟨by assumption, by assumption⟩ | exact ⟨by go_simp, by go_simp⟩)
    (first
      | (refine step_app_at rfl (.tmp 6) (.tmp 30) 23 rfl base 5 i5 _ 1 1 Try.underlying23 hi5 iz0 iz1 iz2 rfl (Nat.succ_pos _) _ text.length (text.flatMap byc) rfl (unhide oA) (some ⟨w.heap.size, 0, none⟩) 4 4 N rfl (unhide sl) (unhide sA) (unhide s1) (unhide b1) (unhide b2) (unhide b3) ?_
         intro v6 w6 o6 g6 l6
         obtain ⟨A6, ct6, rfl⟩ := ownsRow_form o6
         have K6 := Blk.grown (unhide KA) g6 (own_ne (unhide oA) (unhide KA) (by decide))
         have x2 : w6.cell? ⟨g, 2, none⟩ = some (.slice (some ⟨gt, 0, none⟩) text.length ct) := K6.cell 2
         have x3 : w6.cell? ⟨g, 3, none⟩ = some (.int .u32 low) := K6.cell 3
         clear K6
         replace o6 := hide o6; replace g6 := hide g6; replace l6 := hide l6))
  go_wp2_with fail
  go_ret
  have o7 := unhide o6
  rw [unhide hfin] at o7
  obtain ⟨g7, _, e7, _, _⟩ := own_pos o7 (by omega)
  subst e7
  exact ⟨g7, ct6, rfl, o7, (unhide hB).grown (unhide g6) (fun q hq => .inl (by injection hq with hq; simp [← hq]))⟩
end Go.Proofs.Ythmhhgodjpgjnaa
