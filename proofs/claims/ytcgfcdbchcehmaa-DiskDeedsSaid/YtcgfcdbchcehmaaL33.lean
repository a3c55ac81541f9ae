import Derived.Test.YtcgfcdbchcehmaaW32
namespace Go.Proofs.Ytcgfcdbchcehmaa
open Go.RowKit

theorem two_filters (ps : List Pg) (a : Int) : (ps.filter (fun p => decide (p.at_ < a))).length + (ps.filter (fun p => decide (a < p.at_))).length ≤ ps.length := by
  induction ps with
  | nil => simp
  | cons p ps ih =>
    simp only [List.filter_cons, List.length_cons]
    by_cases h1 : p.at_ < a <;> by_cases h2 : a < p.at_ <;> simp [h1, h2] <;> omega
theorem wrPg_len1 (ps : List Pg) (at_ : Int) (b : List UInt8) : (wrPg ps at_ b).length ≤ ps.length + 1 := by
  unfold wrPg
  rw [List.length_append, List.length_cons]
  have := two_filters ps at_
  omega
/-- A page of nothing. -/
def zeroP : List UInt8 := [0, 0, 0, 0, 0, 0, 0, 0, 0, 0, 0, 0, 0, 0, 0, 0, 0, 0, 0, 0, 0, 0, 0, 0, 0, 0, 0, 0, 0, 0, 0, 0]
theorem zeroP_bs {w : World} {g : Nat} (h : Blk w g 5 #[.int .u8 0, .int .u8 0, .int .u8 0, .int .u8 0, .int .u8 0, .int .u8 0, .int .u8 0, .int .u8 0, .int .u8 0, .int .u8 0, .int .u8 0, .int .u8 0, .int .u8 0, .int .u8 0, .int .u8 0, .int .u8 0, .int .u8 0, .int .u8 0, .int .u8 0, .int .u8 0, .int .u8 0, .int .u8 0, .int .u8 0, .int .u8 0, .int .u8 0, .int .u8 0, .int .u8 0, .int .u8 0, .int .u8 0, .int .u8 0, .int .u8 0, .int .u8 0]) : Bs 0 w.heap.size w (.slice (some ⟨g, 0, none⟩) 32 32) zeroP := by
  have h' : Blk w g 5 (zeroP.map u8v).toArray := h
  exact ⟨_, 32, rfl, by decide, by omega, fun _ => ⟨g, 0, rfl, Nat.zero_le _, h.lt, fun i hi => by rw [Nat.zero_add, h'.cell, List.getElem?_toArray, List.getElem?_map, List.getElem?_eq_getElem hi]; rfl⟩⟩

/-- What a disk is behind so many deeds. -/
structure Going (d e : Dk) (m : Int) (k : Nat) : Prop where
  ok : okD e = true
  dry : e.dry.length = d.dry.length
  wet : e.wet.length ≤ d.wet.length + k
  noEnd : m = -1 → e.left = -1

theorem Going.has {d e : Dk} {m : Int} {k : Nat} (h : Going d e m k) : hasB e.dry.length 0 = true := by
  have := (okD_parts h.ok).2.1
  simp only [hasB, decide_eq_true_eq]; omega
theorem Going.next {d e : Dk} {m : Int} {k : Nat} (h : Going d e m k) : Going d e m (k + 1) := ⟨h.ok, h.dry, by have := h.wet; omega, h.noEnd⟩
theorem less_end {m l : Int} (h : m = -1 → l = -1) (hm : m = -1) : less l = -1 := by simp [less, h hm]
theorem Going.wr {d e : Dk} {m : Int} {k : Nat} (h : Going d e m k) (h0 : e.left ≠ 0) : wrD e 0 zeroP = (⟨e.dry, wrPg e.wet 0 zeroP, less e.left⟩, 0) ∧ Going d ⟨e.dry, wrPg e.wet 0 zeroP, less e.left⟩ m (k + 1) := by
  have hb : wrB e 0 zeroP.length = true := by simp [wrB, h.ok, h.has, zeroP]
  refine ⟨by simp [wrD, hb, h0], okD_wr h.ok h.has rfl (less_left (okD_parts h.ok).2.2.2.1 h0), h.dry, ?_, less_end h.noEnd⟩
  have := wrPg_len1 e.wet 0 zeroP
  have := h.wet
  show (wrPg e.wet 0 zeroP).length ≤ _
  omega
theorem Going.wr0 {d e : Dk} {m : Int} {k : Nat} (h : Going d e m k) (h0 : e.left = 0) : wrD e 0 zeroP = (noDk, 11) := by
  have hb : wrB e 0 zeroP.length = true := by simp [wrB, h.ok, h.has, zeroP]
  simp [wrD, hb, h0]
theorem Going.sy0 {d e : Dk} {m : Int} {k : Nat} (h : Going d e m k) (h0 : e.left = 0) : synD e = (noDk, 11) := by simp [synD, h.ok, h0]
theorem Going.sy {d e : Dk} {m : Int} {k : Nat} (h : Going d e m k) (h0 : e.left ≠ 0) : synD e = (⟨syAt e.dry e.wet e.wet.length, [], less e.left⟩, 0) ∧ Going d ⟨syAt e.dry e.wet e.wet.length, [], less e.left⟩ m (k + 1) := by
  obtain ⟨a1, a2, a3, a4, _, a6⟩ := okD_parts h.ok
  have hl := syAt_length e.dry e.wet e.wet.length a6
  refine ⟨by simp [synD, h.ok, h0], okD_make (by rw [hl]; exact a1) (by rw [hl]; exact a2) (by rw [hl]; exact a3) (less_left a4 h0) (fun i j hi => by simp at hi) (fun q hq => by cases hq), hl.trans h.dry, Nat.zero_le _, less_end h.noEnd⟩
theorem Going.rd {d e : Dk} {m : Int} {k : Nat} (h : Going d e m k) : rdD e 0 = (sectorOf e 0, 0) := by simp [rdD, h.ok, h.has]

end Go.Proofs.Ytcgfcdbchcehmaa
