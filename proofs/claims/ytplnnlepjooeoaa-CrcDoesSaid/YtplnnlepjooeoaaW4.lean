import Derived.Test.YtplnnlepjooeoaaW3
namespace Go.Proofs.Ytplnnlepjooeoaa
open Go.RowKit

theorem low8_u8v (x : Reg) : Value.int .u8 (low8 x) = u8v ⟨x.setWidth 8⟩ := rfl

theorem concat2 (lo g : Nat) (A A' : Option Addr) (c c' m : Nat) (a b : List UInt8) (w : World) (hc0 : w.cell? ⟨g, 0, none⟩ = some (.slice A a.length c)) (hc1 : w.cell? ⟨g, 1, none⟩ = some (.slice A' m c')) (hm : b.length = m) (h0 : 0 < m)
    (ha : Bs lo w.heap.size w (.slice A a.length c) a) (hb : Bs lo w.heap.size w (.slice A' m c') b) (hL : a.length + m ≤ 1000000) :
    Calls Try.prog 19 #[.slice (some ⟨g, 0, none⟩) 2 2] w fun e w' => ∃ A c, e = .returned (.slice A (a.length + m) c) ∧ w'.ownsRow w.heap.size 5 1 (.slice A (a.length + m) c) (a.length + m) ((a ++ b).map u8v) ∧ Below w.heap.size w w' := by
  subst hm
  have hu : upto [a, b] [a, b].length = a.length + b.length := by simp [upto]
  have hca : cat [a, b] [a, b].length = a ++ b := by simp [cat]
  have h := concat_any lo g [a, b] w (fun k hk => by
    match k, hk with
    | 0, _ => exact ⟨A, c, hc0, ha⟩
    | 1, _ => exact ⟨A', c', hc1, hb⟩) (World.block_lt_of_cell? w _ hc0) (by simp) (by rw [hu]; omega) (by rw [hu]; exact hL)
  rw [hu, hca] at h
  exact h

theorem octs_bs {w : World} {g : Nat} {s : Reg} {t : TypeId} (h : Blk w g t #[.int .u8 (low8 s), .int .u8 (low8 (s >>> 8)), .int .u8 (low8 (s >>> 16)), .int .u8 (low8 (s >>> 24))]) (lo : Nat) (hlo : lo ≤ g) : Bs lo w.heap.size w (.slice (some ⟨g, 0, none⟩) 4 4) (octs s) := by
  refine ⟨_, 4, rfl, by simp [octs], by omega, fun _ => ⟨g, 0, rfl, hlo, h.lt, fun i hi => ?_⟩⟩
  rw [h.cell]
  match i, hi with
  | 0, _ => rfl
  | 1, _ => rfl
  | 2, _ => rfl
  | 3, _ => rfl

set_option maxHeartbeats 1000000 in
theorem seal_any (lo : Nat) (v : Value) (l : List UInt8) (w : World) (h : Bs lo w.heap.size w v l) (hL : l.length ≤ 900000) :
    Calls Try.prog 10 #[v] w fun e w' => ∃ A c, e = .returned (.slice A (l.length + 4) c) ∧ w'.ownsRow w.heap.size 5 1 (.slice A (l.length + 4) c) (l.length + 4) ((l ++ octs (sumR l)).map u8v) ∧ Below w.heap.size w w' := by
  have hsum := fun W (hb : Below w.heap.size w W) => sum_any lo w.heap.size v l W (h.below hb (Nat.le_refl _))
  obtain ⟨A, c, rfl, h1, h2, _⟩ := id h
  replace hsum := hide hsum
  replace h := hide h
  go_enter Try.func10, Try.ntmps10
  go_wp2_with (first
    | (go_at_call 13; refine (unhide hsum _ (by (repeat (first | with_reducible exact Below.refl _ _ | with_reducible assumption | with_reducible refine Below.drew ?_ | with_reducible refine bl_alloc ?_ _ | with_reducible refine bl_call ?_ (by assumption) | (focus (with_reducible refine Below.setCell ?_ ?_ _; rotate_left; focus (first | omega | (simp <;> omega)))) | fail)))).mono ?_; rintro e w' ⟨rfl, rfl⟩)
    | (go_at_call 17; refine (octets_any _ _).mono ?_; rintro e w1 ⟨rfl, hb1⟩; obtain ⟨hc1, hf1⟩ := bcell hb1; have hz1 := hb1.size; (try simp at hz1); unfold octsV)
    | fail)
  have hsz := hb1.size
  have G1 : Blk (w1.alloc (.cells #[.int .u8 (low8 (sumR l)), .int .u8 (low8 (sumR l >>> 8)), .int .u8 (low8 (sumR l >>> 16)), .int .u8 (low8 (sumR l >>> 24))] 36)) w1.heap.size 36 _ := Blk.new rfl
  have G2 := G1.alloc (.cells #[.slice A l.length c, .slice (some ⟨w1.heap.size, 0, none⟩) 4 4] 23)
  have G3 : Blk ((w1.alloc (.cells #[.int .u8 (low8 (sumR l)), .int .u8 (low8 (sumR l >>> 8)), .int .u8 (low8 (sumR l >>> 16)), .int .u8 (low8 (sumR l >>> 24))] 36)).alloc (.cells #[.slice A l.length c, .slice (some ⟨w1.heap.size, 0, none⟩) 4 4] 23)) (w1.heap.size + 1) 23 _ := Blk.new (by simp)
  have hb2 : Below w.heap.size w ((w1.alloc (.cells #[.int .u8 (low8 (sumR l)), .int .u8 (low8 (sumR l >>> 8)), .int .u8 (low8 (sumR l >>> 16)), .int .u8 (low8 (sumR l >>> 24))] 36)).alloc (.cells #[.slice A l.length c, .slice (some ⟨w1.heap.size, 0, none⟩) 4 4] 23)) := bl_alloc (bl_alloc hb1 _) _
  have K := concat2 0 (w1.heap.size + 1) A (some ⟨w1.heap.size, 0, none⟩) c 4 4 l (octs (sumR l)) _ (by rw [G3.cell]; rfl) (by rw [G3.cell]; rfl) rfl (by omega) (((unhide h).below hb2 (Nat.le_refl _)).mono (Nat.zero_le _) hb2.size) (octs_bs G2 0 (Nat.zero_le _)) (by omega)
  refine K.mono ?_
  rintro e w2 ⟨A2, c2, rfl, hown, hb3⟩
  have hb4 := bl_call hb2 hb3
  replace hown := hide (ownsRow_mono hown hb2.size)
  clear G1 G2 G3 K hb2 hb3
  go_wp2
  go_ret
  exact ⟨A2, c2, rfl, unhide hown, hb4⟩
end Go.Proofs.Ytplnnlepjooeoaa
