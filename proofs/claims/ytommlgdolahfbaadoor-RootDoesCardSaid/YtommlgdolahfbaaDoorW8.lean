import Derived.Test.YtommlgdolahfbaaDoorL5
import Derived.Test.YtommlgdolahfbaaDoorW1
namespace Go.Proofs.YtommlgdolahfbaaDoor
set_option maxRecDepth 100000
open Go.RowKit

/-- Is bit 'k' of a mask set? -/
def bitOf (m : UInt8) (k : Nat) : Bool := m.toNat / 2 ^ k % 2 == 1
/-- A row's cells behind the first 'n' groups of a page, laid over it from 'off' on where the mask has bits. -/
def keepG {α : Type} (cur : List α) (off : Nat) (pg : List α) (m : UInt8) : Nat → List α
  | 0 => cur
  | n + 1 => if bitOf m n then splice (keepG cur off pg m n) (off + n * 4) ((pg.drop (n * 4)).take 4) else keepG cur off pg m n

theorem keepG_length {α : Type} (cur : List α) (off : Nat) (pg : List α) (m : UInt8) (n : Nat) (h : off + 32 ≤ cur.length) (_hp : pg.length = 32) (hn : n ≤ 8) : (keepG cur off pg m n).length = cur.length := by
  induction n with
  | zero => rfl
  | succ n ih =>
    simp only [keepG]
    split
    · rw [length_splice _ _ _ (by rw [ih (by omega), List.length_take, List.length_drop]; omega), ih (by omega)]
    · exact ih (by omega)

theorem splice_map {α β : Type} (f : α → β) (L : List α) (off : Nat) (cs : List α) : (splice L off cs).map f = splice (L.map f) off (cs.map f) := by simp [splice]
theorem splice_app {α : Type} (L S : List α) (off : Nat) (cs : List α) (h : off + cs.length ≤ L.length) : splice (L ++ S) off cs = splice L off cs ++ S := by
  simp only [splice, List.append_assoc]
  rw [List.take_append_of_le_length (by omega), List.drop_append_of_le_length h]
theorem keepG_map {α β : Type} (f : α → β) (cur : List α) (off : Nat) (pg : List α) (m : UInt8) (n : Nat) : (keepG cur off pg m n).map f = keepG (cur.map f) off (pg.map f) m n := by
  induction n with
  | zero => rfl
  | succ n ih =>
    simp only [keepG]
    split
    · rw [splice_map, ih]; simp
    · exact ih
theorem keepG_app {α : Type} (cur S : List α) (off : Nat) (pg : List α) (m : UInt8) (n : Nat) (h : off + 32 ≤ cur.length) (hp : pg.length = 32) (hn : n ≤ 8) : keepG (cur ++ S) off pg m n = keepG cur off pg m n ++ S := by
  induction n with
  | zero => rfl
  | succ n ih =>
    simp only [keepG]
    split
    · rw [ih (by omega), splice_app _ _ _ _ (by rw [keepG_length cur off pg m n h hp (by omega), List.length_take, List.length_drop]; omega)]
    · exact ih (by omega)

/-- What is dry behind a crash, of the first 'k' pages. -/
def crAt (dry : List UInt8) (wet : List Pg) (ms : List UInt8) : Nat → List UInt8
  | 0 => dry
  | k + 1 => match wet[k]?, ms[k]? with
    | some p, some m => keepG (crAt dry wet ms k) (p.at_.toNat * 32) p.b m 8
    | _, _ => crAt dry wet ms k
/-- What Crash answers. -/
def crD (d : Dk) (ms : List UInt8) : Dk × Int := if okD d then (⟨crAt d.dry d.wet ms (min d.wet.length ms.length), [], -1⟩, 0) else (⟨[], [], 0⟩, 1)

theorem crAt_length (dry : List UInt8) (wet : List Pg) (ms : List UInt8) (k : Nat) (h : ∀ (j : Nat) (q : Pg), wet[j]? = some q → 0 ≤ q.at_ ∧ q.at_ < ((dry.length / 32 : Nat) : Int) ∧ q.b.length = 32) : (crAt dry wet ms k).length = dry.length := by
  induction k with
  | zero => rfl
  | succ k ih =>
    simp only [crAt]
    split
    · rename_i p m hp _
      obtain ⟨a, b, c⟩ := h k p hp
      rw [keepG_length _ _ _ _ _ (by rw [ih]; omega) c (by omega), ih]
    · exact ih

theorem bit_walk (m : UInt8) (k : Nat) : (bits .and .u8 ((m.toNat : Int) / 2 ^ k) 1 == 1) = bitOf m k := by
  have hm : m.toNat < 256 := m.toNat_lt
  have e1 : ((m.toNat : Int) / 2 ^ k) = ((m.toNat / 2 ^ k : Nat) : Int) := by simp
  have hle : m.toNat / 2 ^ k ≤ m.toNat := Nat.div_le_self _ _
  have e2 : bits .and .u8 ((m.toNat / 2 ^ k : Nat) : Int) 1 = ((m.toNat / 2 ^ k % 2 : Nat) : Int) := by
    show IntKind.u8.wrap ((BitVec.ofInt 8 ((m.toNat / 2 ^ k : Nat) : Int) &&& BitVec.ofInt 8 ((1 : Nat) : Int)).toNat : Int) = _
    rw [BitVec.ofInt_natCast, BitVec.ofInt_natCast, BitVec.toNat_and, BitVec.toNat_ofNat, BitVec.toNat_ofNat, IntKind.wrap_u8]
    rw [Nat.mod_eq_of_lt (show m.toNat / 2 ^ k < 2 ^ 8 by omega), show 1 % 2 ^ 8 = 1 by rfl, Nat.and_one_is_mod]
    omega
  rw [e1, e2, Bool.eq_iff_iff, bitOf]
  simp
  omega

set_option maxHeartbeats 1000000 in
theorem keepGroups_any (g off c : Nat) (A : Option Addr) (cur pg : List Value) (m : UInt8) (w : World) (hg : Blk w g 5 cur.toArray) (hfit : off + 32 ≤ cur.length) (hpl : pg.length = 32) (hp1 : ∀ v ∈ pg, v.oneCell' = true) (hc : 32 ≤ c) (hc2 : c ≤ 9223372036854775807)
    (hs : ∃ b o, A = some ⟨b, o, none⟩ ∧ b ≠ g ∧ ∀ i u, pg[i]? = some u → w.cell? ⟨b, o + i, none⟩ = some u) :
    Calls Tryd.prog 53 #[.slice (some ⟨g, off, none⟩) 32 32, .slice A 32 c, u8v m] w fun e w' => e = .returned (.tuple #[]) ∧ Blk w' g 5 (keepG cur off pg m 8).toArray ∧ Only g w w' := by
  obtain ⟨b, o, rfl, hne, hcell⟩ := hs
  replace hg := hide hg; replace hp1 := hide hp1; replace hcell := hide hcell; replace hpl := hide hpl
  unfold u8v
  go_enter Tryd.func53, Tryd.ntmps53
  go_wp2_with fail
  go_loopw [7] (fun i wr => ∃ k : Nat, k ≤ 8 ∧ i = .int .i64 k ∧ Hid (Blk wr g 5 (keepG cur off pg m k).toArray) ∧ Hid (wr.os = w.os ∧ wr.tape = w.tape ∧ wr.output = w.output ∧ wr.heap.size = w.heap.size ∧ ∀ j, j ≠ g → wr.heap[j]? = w.heap[j]?)) (fun i _ => 8 - (intOf i).toNat)
  case atStart => exact ⟨0, by omega, rfl, hg, hide ⟨rfl, rfl, rfl, rfl, fun _ _ => rfl⟩⟩
  case round =>
    obtain ⟨k, hk, rfl, hb, ho⟩ := hrel
    by_cases hlt : k < 8
    · have i1 : (0 : Int) ≤ (k : Int) := by omega
      have hl := keepG_length cur off pg m k hfit (unhide hpl) (by omega)
      have x1 : ((pg.drop (k * 4)).take 4).length = 4 * 1 := by rw [List.length_take, List.length_drop, unhide hpl]; omega
      have x2 : off + k * 4 + ((pg.drop (k * 4)).take 4).length ≤ (keepG cur off pg m k).length := by rw [x1, hl]; omega
      replace x1 := hide x1; replace x2 := hide x2; replace hl := hide hl
      go_wp2_with fail
      · have k1 : IntKind.i64.wrap ((k : Int) * 4) = (k : Int) * 4 := IntWalk.i64_in _ (by omega)
        have k2 : IntKind.i64.wrap ((k : Int) + 1) = (k : Int) + 1 := IntWalk.i64_in _ (by omega)
        have k3 : IntKind.i64.wrap (((k : Int) + 1) * 4) = ((k : Int) + 1) * 4 := IntWalk.i64_in _ (by omega)
        have k4 : ((k : Int) * 4).toNat = k * 4 := by omega
        have k5 : (((k : Int) + 1) * 4).toNat = (k + 1) * 4 := by omega
        have k6 : (0 : Int) ≤ (k : Int) * 4 := by omega
        have k7 : (k : Int) * 4 ≤ 32 := by omega
        have k8 : ((k : Int) + 1) * 4 ≤ 32 := by omega
        have k9 : (k : Int) * 4 ≤ ((k : Int) + 1) * 4 := by omega
        have k10 : (0 : Int) ≤ ((k : Int) + 1) * 4 := by omega
        have k11 : (k : Int) ≤ (k : Int) + 1 := by omega
        have q1 : 32 ≠ k * 4 := by omega
        have q2 : c ≠ k * 4 := by omega
        have x3 : 4 = Nat.min (32 - k * 4) ((k + 1) * 4 - k * 4) := by show 4 = min _ _; omega
        have x4 : ∀ v ∈ (pg.drop (k * 4)).take 4, v.oneCell' = true := fun v hv => unhide hp1 v (List.mem_of_mem_drop (List.mem_of_mem_take hv))
        have x5 : SrcOk wr (some ⟨b, o + k * 4, none⟩) ((pg.drop (k * 4)).take 4).length ((pg.drop (k * 4)).take 4) := by
          intro _
          refine ⟨_, rfl, fun j u hu => ?_⟩
          rw [List.getElem?_take] at hu
          split at hu
          · rw [List.getElem?_drop] at hu
            have h1 := (World.cell?_of_block (w := w) (w' := wr) (a := ⟨b, o + (k * 4 + j), none⟩) ((unhide ho).2.2.2.2 b hne)).trans (unhide hcell _ u hu)
            rw [← Nat.add_assoc] at h1
            unfold Addr.add
            split
            · rename_i h0; subst h0; exact h1
            · exact h1
          · cases hu
        have x6 : bitOf m k = true := by rw [← bit_walk]; assumption
        replace x3 := hide x3; replace x4 := hide x4; replace x5 := hide x5; replace x6 := hide x6
        go_region_held3 (fun _ => True) (trivial) (first | (refine step_copyN rfl (.tmp 21) (.tmp 25) 28 28 rfl 5 1 Tryd.underlying28 (by kernel_rfl) _ _ _ _ _ _ rfl rfl g (off + k * 4) (keepG cur off pg m k) 5 (Blk.drew (unhide hb)) ((pg.drop (k * 4)).take 4) 4 (unhide x3) (unhide x1) (fun _ => ⟨rfl, (show SrcOk wr.drew _ _ _ from unhide x5)⟩) (unhide x2) (unhide x4) ?_; intro w3 B3 O3))
        all_goals
          clear k1 k2 k3 k4 k5 k6 k7 k8 k9 k10 k11 q1 q2
          go_wp2_with fail
          go_roundw
          case rel =>
            refine ⟨k + 1, by omega, by go_num, hide ?_, hide ?_⟩
            · simp only [keepG]; rw [if_pos (unhide x6)]; exact unhide B3
            · obtain ⟨a1, a2, a3, a4, a5⟩ := unhide ho
              exact ⟨O3.os.trans a1, O3.tape.trans a2, O3.output.trans a3, O3.size.trans a4, fun j hj => (O3.block j hj).trans (a5 j hj)⟩
          case measure => simp [intOf]; omega
      · have x6 : bitOf m k = false := by rw [← bit_walk]; assumption
        go_roundw
        case rel =>
          refine ⟨k + 1, by omega, by go_num, hide ?_, ho⟩
          simp only [keepG]; rw [if_neg (by simp [x6])]; exact unhide hb
        case measure => simp [intOf]; omega
    · obtain rfl : k = 8 := by omega
      go_wp2_with fail
      go_end0
      obtain ⟨a1, a2, a3, a4, a5⟩ := unhide ho
      exact ⟨rfl, unhide hb, ⟨a1, a2, a3, a4, a5⟩⟩

end Go.Proofs.YtommlgdolahfbaaDoor
