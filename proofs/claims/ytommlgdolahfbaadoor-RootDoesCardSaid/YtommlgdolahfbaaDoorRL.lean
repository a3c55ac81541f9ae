import Derived.Test.YtommlgdolahfbaaDoorRJ
import Derived.Test.YtommlgdolahfbaaDoorW10
namespace Go.Proofs.YtommlgdolahfbaaDoor
set_option maxRecDepth 100000
open Go.RowKit

def lvR : Rt := ⟨1, 2, 1, 0, 0, 0⟩
def lvD : Dk := (newD 3).1
def lvE : Dk := (wrR lvD lvR).1
theorem lv1 : (newD 3).2 = 0 := by decide
theorem lv2 : (fdR lvD).2 = 4 := by decide +kernel
theorem lv3 : (wrR lvD lvR).2 = 0 := by decide +kernel
theorem lv4 : (fdR lvE).2 = 0 := by decide +kernel
theorem lv5 : (fdR lvE).1.gen = 1 := by decide +kernel
theorem lv6 : lvD.dry.length = 96 ∧ lvD.wet.length = 0 ∧ lvE.dry.length = 96 ∧ lvE.wet.length = 0 := by decide +kernel
/-- Write, with the disk's parts written out. -/
theorem Write_form' (lo : Nat) (v : Value) (d : Dk) (r : Rt) (w : World) (ht : Tab w) (hT : OkT r) (h : Dsk lo w.heap.size w v d) (hL : d.dry.length ≤ 1000000) (hW : d.wet.length ≤ 400) :
    Calls Tryd.prog 15 #[v, (.agg #[.int .u64 (r.gen : Nat), .int .i64 r.at_, .int .i64 r.len, .int .i64 r.long, .int .u32 (r.sum : Nat), .int .u64 (r.next : Nat)])] w fun e w' => ∃ A c B e', e = .returned (.tuple #[.agg #[.slice A (wrR d r).1.dry.length c, .slice B (wrR d r).1.wet.length e', .int .i64 (wrR d r).1.left], .int .i64 (wrR d r).2]) ∧ Dsk w.heap.size w'.heap.size w' (.agg #[.slice A (wrR d r).1.dry.length c, .slice B (wrR d r).1.wet.length e', .int .i64 (wrR d r).1.left]) (wrR d r).1 ∧ Below w.heap.size w w' :=
  (Write_any lo v d r w ht hT h hL hW).mono fun e w' ⟨v', E, he, hx, hE, hb⟩ => by
    obtain ⟨A, c, B, e', rfl⟩ := hx.form
    exact ⟨A, c, B, e', by rw [he, hE], hx, hb⟩
theorem New_form (n : Int) (w : World) : Calls Tryd.prog 26 #[.int .i64 n] w fun e w' => ∃ A c B e', e = .returned (.tuple #[.agg #[.slice A (newD n).1.dry.length c, .slice B (newD n).1.wet.length e', .int .i64 (newD n).1.left], .int .i64 (newD n).2]) ∧ Dsk w.heap.size w'.heap.size w' (.agg #[.slice A (newD n).1.dry.length c, .slice B (newD n).1.wet.length e', .int .i64 (newD n).1.left]) (newD n).1 ∧ Below w.heap.size w w' :=
  (new_any n w).mono fun e w' ⟨v', E, he, hx, hE, hb⟩ => by
    obtain ⟨A, c, B, e', rfl⟩ := hx.form
    exact ⟨A, c, B, e', by rw [he, hE], hx, hb⟩
set_option maxHeartbeats 4000000 in
theorem live_any (w : World) (ht : Tab w) : Calls Tryd.prog 8 #[] w fun e w' => e = .returned (.bool true) ∧ Below w.heap.size w w' := by
  have hN := fun W => New_form 3 W
  have hF0 := fun lo v W (hB : Below w.heap.size w W) (hx : Dsk lo W.heap.size W v lvD) => Find_any lo v lvD W (ht.below hB (Nat.le_refl _)) hx (by rw [lv6.1]; omega) (by rw [lv6.2.1]; omega)
  have hS := fun lo v W (hB : Below w.heap.size w W) (hx : Dsk lo W.heap.size W v lvD) => Write_form' lo v lvD lvR W (ht.below hB (Nat.le_refl _)) ⟨by decide, by decide, by decide, by decide⟩ hx (by rw [lv6.1]; omega) (by rw [lv6.2.1]; omega)
  have hF1 := fun lo v W (hB : Below w.heap.size w W) (hx : Dsk lo W.heap.size W v lvE) => Find_any lo v lvE W (ht.below hB (Nat.le_refl _)) hx (by rw [lv6.2.2.1]; omega) (by rw [lv6.2.2.2]; omega)
  rw [lv1, show (newD 3).1 = lvD from rfl] at hN
  rw [lv2] at hF0
  rw [lv3, show (wrR lvD lvR).1 = lvE from rfl] at hS
  rw [lv4] at hF1
  have hq : ((((fdR lvE).1.gen : Nat) : Int) == 1) = true := by rw [lv5]; rfl
  have hS' : ∀ lo v W, Below w.heap.size w W → Dsk lo W.heap.size W v lvD → Calls Tryd.prog 15 #[v, .agg #[.int .u64 1, .int .i64 2, .int .i64 1, .int .i64 0, .int .u32 0, .int .u64 0]] W _ := hS
  generalize (fdR lvE).1 = q at *
  generalize (fdR lvD).1 = p at *
  generalize lvD = x at *
  generalize lvE = y at *
  clear hS ht
  replace hN := hide hN; replace hF0 := hide hF0; replace hS' := hide hS'; replace hF1 := hide hF1
  have tk0 : True := trivial
  go_enter Tryd.func8, Tryd.ntmps8
  go_wp2_with (first
    | (go_at_call 26; refine (unhide hN _).mono ?_; rintro e w1 ⟨A1, c1, B1, e1, rfl, x1, b1⟩
       have X1 : Gx w (w1.alloc (.cells #[.slice A1 x.dry.length c1, .slice B1 x.wet.length e1, .int .i64 x.left] 31)) [(w1.heap.size, 31, #[.slice A1 x.dry.length c1, .slice B1 x.wet.length e1, .int .i64 x.left])] [(w.heap.size, w1.heap.size, .agg #[.slice A1 x.dry.length c1, .slice B1 x.wet.length e1, .int .i64 x.left], x)] [] := (((Gx.nil w).call b1).addD x1).newB w1.heap.size rfl 31 #[.slice A1 x.dry.length c1, .slice B1 x.wet.length e1, .int .i64 x.left]
       have hw1 := b1.size
       replace X1 := hide X1
       clear x1 b1)
    | (have _t := tk0; clear tk0 _t; go_at_call 17; refine (unhide hF0 _ _ _ (unhide X1).bl ((unhide X1).dr 0 rfl)).mono ?_; rintro e w2 ⟨rfl, b2⟩
       have X2' := (unhide X1).call b2
       have X2 := hide (X2'.alloc (.cells #[.int .u64 (p.gen : Nat), .int .i64 p.at_, .int .i64 p.len, .int .i64 p.long, .int .u32 (p.sum : Nat), .int .u64 (p.next : Nat)] 27))
       have ca0 : w2.cell? ⟨w1.heap.size, 0, none⟩ = some (.slice A1 x.dry.length c1) := (X2'.get 0 rfl).cell 0
       have ca1 : w2.cell? ⟨w1.heap.size, 1, none⟩ = some (.slice B1 x.wet.length e1) := (X2'.get 0 rfl).cell 1
       have ca2 : w2.cell? ⟨w1.heap.size, 2, none⟩ = some (.int .i64 x.left) := (X2'.get 0 rfl).cell 2
       have l2 : w1.heap.size < w2.heap.size := (X2'.get 0 rfl).lt
       clear b2 X1 X2')
    | (go_at_call 15; refine (unhide hS' _ _ _ (unhide X2).bl ((unhide X2).dr 0 rfl)).mono ?_; rintro e w3 ⟨A3, c3, B3, e3, rfl, x3, b3⟩
       have X3 := ((unhide X2).call b3).addD x3
       have cb0 : w3.cell? ⟨w1.heap.size, 0, none⟩ = some (.slice A1 x.dry.length c1) := (X3.get 0 rfl).cell 0
       have cb1 : w3.cell? ⟨w1.heap.size, 1, none⟩ = some (.slice B1 x.wet.length e1) := (X3.get 0 rfl).cell 1
       have cb2 : w3.cell? ⟨w1.heap.size, 2, none⟩ = some (.int .i64 x.left) := (X3.get 0 rfl).cell 2
       have fb0 : w3.frozen? ⟨w1.heap.size, 0, none⟩ = false := (X3.get 0 rfl).frozen 0
       have fb1 : w3.frozen? ⟨w1.heap.size, 1, none⟩ = false := (X3.get 0 rfl).frozen 1
       have fb2 : w3.frozen? ⟨w1.heap.size, 2, none⟩ = false := (X3.get 0 rfl).frozen 2
       have X4 := hide ((X3.sub (L' := []) (Y' := [((w2.alloc (.cells #[.int .u64 (p.gen : Nat), .int .i64 p.at_, .int .i64 p.len, .int .i64 p.long, .int .u32 (p.sum : Nat), .int .u64 (p.next : Nat)] 27)).heap.size, w3.heap.size, .agg #[.slice A3 y.dry.length c3, .slice B3 y.wet.length e3, .int .i64 y.left], y)]) (fun _ h => (nomatch h)) (by simp) (fun _ h => h)).set3 (X3.get 0 rfl) hw1 (by simp) (by simp; omega) (by simp) (.slice A3 y.dry.length c3) (.slice B3 y.wet.length e3) (.int .i64 y.left))
       have l3 : w1.heap.size < w3.heap.size := (X3.get 0 rfl).lt
       have tk1 : True := trivial
       clear b3 X2 X3 x3 ca0 ca1 ca2)
    | (have _t := tk1; clear tk1 _t; go_at_call 17; refine (unhide hF1 _ _ _ (unhide X4).bl ((unhide X4).dr 0 rfl)).mono ?_; rintro e w5 ⟨rfl, b5⟩
       have X5 := hide (((unhide X4).call b5).alloc (.cells #[.int .u64 (q.gen : Nat), .int .i64 q.at_, .int .i64 q.len, .int .i64 q.long, .int .u32 (q.sum : Nat), .int .u64 (q.next : Nat)] 27))
       clear b5 X4)
    | fail)
  go_ret
  exact ⟨rfl, (unhide X5).bl⟩
end Go.Proofs.YtommlgdolahfbaaDoor
