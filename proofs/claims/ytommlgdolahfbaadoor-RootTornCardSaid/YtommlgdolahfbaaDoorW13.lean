import Derived.Test.YtommlgdolahfbaaDoorW9
import Derived.Test.YtommlgdolahfbaaDoorW10
import Derived.Test.YtommlgdolahfbaaDoorW12
namespace Go.Proofs.YtommlgdolahfbaaDoor
set_option maxRecDepth 100000
open Go.RowKit

theorem crash_any (lo : Nat) (v mv : Value) (d : Dk) (ms : List UInt8) (w : World) (h : Dsk lo w.heap.size w v d) (hm : Bs lo w.heap.size w mv ms) (hL : d.dry.length ≤ 1000000) (hW : d.wet.length ≤ 1000) :
    Calls Tryd.prog 24 #[v, mv] w fun e w' => ∃ v' E, e = .returned (.tuple #[v', .int .i64 E]) ∧ Dsk w.heap.size w'.heap.size w' v' (crD d ms).1 ∧ E = (crD d ms).2 ∧ Below w.heap.size w w' := by
  cases hq : okD d
  · refine (crash_bad lo v d mv w h hq).mono ?_
    rintro e w' ⟨rfl, hb⟩
    have : crD d ms = (⟨[], [], 0⟩, 1) := by simp [crD, hq]
    rw [this]
    exact ⟨_, _, rfl, noDk_dsk _ _ _, rfl, hb⟩
  · have hm' := hm
    obtain ⟨A, c, rfl, _⟩ := hm'
    refine (crash_good lo v d A c ms w h hm hq hL hW).mono ?_
    rintro e w' ⟨v', rfl, hx, hb⟩
    exact ⟨_, _, rfl, hx, by simp [crD, hq], hb⟩

/-- The example's page. -/
def liveP : List UInt8 := [7, 0, 0, 0, 9, 0, 0, 0, 0, 0, 0, 0, 0, 0, 0, 0, 0, 0, 0, 0, 0, 0, 0, 0, 0, 0, 0, 0, 0, 0, 0, 0]
def liveD1 : Dk := (newD 2).1
def liveD2 : Dk := (wrD liveD1 1 liveP).1
def liveD3 : Dk := (crD liveD2 [1]).1
theorem live_e1 : (newD 2).2 = 0 := by decide
theorem live_e2 : (wrD liveD1 1 liveP).2 = 0 := by decide
theorem live_e3 : (crD liveD2 [1]).2 = 0 := by decide
theorem live_e4 : (rdD liveD3 1).2 = 0 := by decide
theorem live_x : (rdD liveD3 1).1 = [7, 0, 0, 0, 0, 0, 0, 0, 0, 0, 0, 0, 0, 0, 0, 0, 0, 0, 0, 0, 0, 0, 0, 0, 0, 0, 0, 0, 0, 0, 0, 0] := by decide
theorem live_l : liveD1.dry.length = 64 ∧ liveD1.wet.length = 0 ∧ liveD2.dry.length = 64 ∧ liveD2.wet.length = 1 ∧ liveD3.dry.length = 64 ∧ liveD3.wet.length = 0 := by decide

theorem liveP_bs {w : World} {g : Nat} (h : Blk w g 5 (liveP.map u8v).toArray) : Bs 0 w.heap.size w (.slice (some ⟨g, 0, none⟩) 32 32) liveP :=
  ⟨_, 32, rfl, by decide, by omega, fun _ => ⟨g, 0, rfl, Nat.zero_le _, h.lt, fun i hi => by rw [Nat.zero_add, h.cell, List.getElem?_toArray, List.getElem?_map, List.getElem?_eq_getElem hi]; rfl⟩⟩

theorem one_bs {w : World} {g : Nat} (h : Blk w g 5 #[.int .u8 1]) : Bs 0 w.heap.size w (.slice (some ⟨g, 0, none⟩) 1 1) [1] :=
  ⟨_, 1, rfl, by decide, by omega, fun _ => ⟨g, 0, rfl, Nat.zero_le _, h.lt, fun i hi => by
    obtain rfl : i = 0 := by simp at hi; omega
    rw [Nat.zero_add, h.cell]; rfl⟩⟩

end Go.Proofs.YtommlgdolahfbaaDoor
