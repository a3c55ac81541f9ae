import Derived.RangeFuncNested
import Derived.RangeFuncBound
import Derived.RangeFuncCalls
import Derived.RangeFuncLeaves
import Derived.Shelf.Abstract
import Derived.Shelf.RegionOpen
import Derived.WalkKit
import Derived.OwnWalkIn
import Derived.TacticsInMore
import Derived.LoopNIn
import Derived.LoopIn
import Derived.Maps.AppendAt
import Derived.Test.YtnjepbehfioclaaX2
import Derived.Test.YtnjepbehfioclaaSh
namespace Go.Proofs.Ytnjepbehfioclaa
open Go.RowKit Go.Shelf
attribute [local go_sem] Oper.semAt_some bz_size bz_toList

/-! ### the first slash -/
theorem index_has : ∀ (l : List UInt8), hasS l = true → Lib.indexByte l 47 = ((hd l).length : Int)
  | [], h => by simp [hasS] at h
  | c :: l, h => by
    unfold Lib.indexByte
    by_cases hc : c = 47
    · subst hc; simp [hd]
    · have h' : hasS l = true := by
        simp [hasS] at h ⊢
        exact h.resolve_left (fun e => hc e.symm)
      have ih := index_has l h'
      have e1 : hd (c :: l) = c :: hd l := by simp [hd, hc]
      have hb : (c == 47) = false := by simpa using hc
      have h2 : (Lib.indexByte l 47 == -1) = false := by rw [ih, beq_eq_false_iff_ne]; omega
      rw [hb, h2, e1, ih]
      simp
theorem index_not : ∀ (l : List UInt8), hasS l = false → Lib.indexByte l 47 = -1
  | [], _ => rfl
  | c :: l, h => by
    have h' : ¬ c = 47 ∧ hasS l = false := by
      simp [hasS] at h ⊢
      exact ⟨fun e => h.1 e.symm, h.2⟩
    have ih := index_not l h'.2
    unfold Lib.indexByte
    have hb : (c == 47) = false := by simpa using h'.1
    rw [hb, ih]
    simp
theorem take_hd (l : List UInt8) (h : hasS l = true) : l.take (hd l).length = hd l := by
  have hc := cut_has l h
  generalize hd l = u at hc ⊢
  generalize tl l = v at hc
  subst hc
  simp
theorem drop_hd (l : List UInt8) (h : hasS l = true) : l.drop ((hd l).length + 1) = tl l := by
  have hc := cut_has l h
  generalize hd l = u at hc ⊢
  generalize tl l = v at hc ⊢
  subst hc
  rw [List.drop_append]
  simp
theorem bz_ext (l : List UInt8) (a b : Nat) : (bz l).extract a b = bz ((l.drop a).take (b - a)) := ByteArray.extract_mk l a b
theorem bz_hd (l : List UInt8) (h : hasS l = true) : (bz l).extract 0 (hd l).length = bz (hd l) := by
  rw [bz_ext, List.drop_zero, Nat.sub_zero, take_hd l h]
theorem bz_tl (l : List UInt8) (h : hasS l = true) : (bz l).extract ((hd l).length + 1) l.length = bz (tl l) := by
  rw [bz_ext, drop_hd l h, List.take_of_length_le]
  rw [← drop_hd l h]; simp

set_option maxHeartbeats 400000 in
theorem cut45_any (l : List UInt8) (hl : l.length ≤ 1000) (w : World) : Calls Try.prog 67 #[.string (bz l), .string ⟨#[47]⟩] w fun e w' => e = .returned (.tuple #[.string (bz (hd l)), .string (bz (tl l)), .bool (hasS l)]) ∧ ∃ n, w' = w.drewN n := by
  have HI := fun W => Try.stringslite_Index_one (bz l) 47 W
  cases hh : hasS l with
  | false =>
    have e1 : Lib.indexByte (bz l).data.toList 47 = -1 := index_not l hh
    rw [(cut_not l hh).1, (cut_not l hh).2]
    rw [e1] at HI
    clear e1 hh
    replace HI := hide HI
    go_enter Try.func67, Try.ntmps67
    go_wp2_with (go_at_call 69; refine (unhide HI _).mono ?_; rintro e w' ⟨rfl, rfl⟩)
    go_ret3
    exact ⟨rfl, 0, rfl⟩
  | true =>
    have e1 : Lib.indexByte (bz l).data.toList 47 = ((hd l).length : Int) := index_has l hh
    have e2 := bz_hd l hh
    have e3 := bz_tl l hh
    have hlen : (hd l).length + 1 ≤ l.length := by
      have := congrArg List.length (cut_has l hh)
      simp at this; omega
    rw [e1] at HI
    clear e1 hh
    obtain ⟨k, hk⟩ : ∃ k, k = (hd l).length := ⟨_, rfl⟩
    rw [← hk] at HI e2 e3 hlen
    clear hk
    replace HI := hide HI
    have c2 : (k : Int) ≤ (l.length : Int) := by omega
    have c3 : (0 : Int) ≤ (k : Int) + 1 := by omega
    have c4 : (k : Int) + 1 ≤ (l.length : Int) := by omega
    have E2 := hide e2
    have E3 := hide e3
    clear e2 e3
    go_enter Try.func67, Try.ntmps67
    go_wp2_with (go_at_call 69; refine (unhide HI _).mono ?_; rintro e w' ⟨rfl, rfl⟩)
    go_quiet (fail)
    go_wp2
    go_ret3
    exact ⟨by rw [← unhide E2, ← unhide E3]; rfl, nq, rfl⟩

set_option maxHeartbeats 400000 in
theorem cut_any (l : List UInt8) (hl : l.length ≤ 1000) (w : World) : Calls Try.prog 63 #[.string (bz l), .string ⟨#[47]⟩] w fun e w' => e = .returned (.tuple #[.string (bz (hd l)), .string (bz (tl l)), .bool (hasS l)]) ∧ ∃ n, w' = w.drewN n := by
  have HI := fun W => cut45_any l hl W
  replace HI := hide HI
  go_enter Try.func63, Try.ntmps63
  go_wp2_with (go_at_call 67; refine (unhide HI _).mono ?_; rintro e w' ⟨rfl, n, rfl⟩)
  go_ret3
  exact ⟨rfl, n, rfl⟩

set_option maxHeartbeats 400000 in
/-- parts(s): the text is boxed; the function value captures the box. -/
theorem parts_maker (l : List UInt8) (w : World) : Calls Try.prog 62 #[.string (bz l)] w fun e w' => e = .returned (.func (.func 66) #[] #[.pointer (some ⟨w.heap.size, 0, none⟩)]) ∧ w' = w.alloc (.cells #[.string (bz l)] 9) := by
  go_enter Try.func62, Try.ntmps62
  go_wp2
  go_ret
  exact ⟨rfl, rfl⟩

theorem abides_drewN {β : Type} {B : Nat} {J : β → World → Prop} (h : AbidesFrom B J) {s : β} {W : World} (hs : J s W) (n : Nat) : J s (W.drewN n) :=
  h s W _ none hs ⟨rfl, rfl, rfl, Nat.le_refl _, fun _ _ _ => rfl⟩ (fun r e => by cases e)
theorem pre_snoc {pre : List (List UInt8)} {x : List UInt8} {r xs : List (List UInt8)} (h : xs = pre ++ x :: r) : xs = (pre ++ [x]) ++ r := by simp [h]

/-- How much is left. -/
def leftV : Value → Value → Nat
  | .string s, .bool true => s.size + 1
  | _, _ => 0
theorem leftV_t (l : List UInt8) : leftV (.string (bz l)) (.bool true) = l.length + 1 := rfl
theorem leftV_f (l : List UInt8) : leftV (.string (bz l)) (.bool false) = 0 := rfl
theorem tl_lt {l : List UInt8} (h : hasS l = true) : (tl l).length < l.length := by
  have := congrArg List.length (cut_has l h)
  simp at this
  omega

set_option maxRecDepth 100000 in
set_option maxHeartbeats 400000 in
theorem parts_iter (t : List UInt8) (ht : t.length ≤ 1000) (n : Nat) (hn : 1 ≤ n) (l Bn : Nat) (J Jx : List (List UInt8) → World → Prop) (B : Nat) (hJ : AbidesFrom B J)
    (hY : ∀ pre x W, J pre W → pre.length < (parts t).length → YieldAt Fence.wide (n - 1) Try.prog l #[.string (bz x)] W fun e W' =>
      (e = .returned (.bool true) ∧ J (pre ++ [x]) W' ∧ True) ∨ (e = .returned (.bool false) ∧ Jx (pre ++ [x]) W'))
    (W : World) (hBn : W.cell? ⟨Bn, 0, none⟩ = some (.string (bz t))) (h0 : J [] W) :
    CallsIn Fence.wide n Try.prog 66 #[.func (.yield l) #[] #[], .pointer (some ⟨Bn, 0, none⟩)] W fun e W' => (∃ v, e = .returned v) ∧
      ((∃ ys, ys = parts t ∧ J ys W') ∨ (∃ pre, pre <+: parts t ∧ Jx pre W')) := by
  refine callsIn_of_wp Try.func66 rfl trivial ?_ rfl
  simp only [Try.ntmps66, List.size_toArray, List.length_cons, List.length_nil, Nat.reduceAdd, Nat.reduceSub, Array.replicate_succ, Array.replicate_zero, List.push_toArray, List.append_toArray, List.nil_append, List.cons_append]
  gi_wp2
  gi_loopw [3, 4] (fun r m wr => ∃ (pre : List (List UInt8)) (s : List UInt8) (b : Bool), r = .string (bz s) ∧ m = .bool b ∧ s.length ≤ t.length ∧ parts t = pre ++ (if b then parts s else []) ∧ J pre wr)
    (fun r m _ => leftV r m)
  case atStart =>
    exact ⟨[], t, true, rfl, rfl, Nat.le_refl _, rfl, h0⟩
  case round =>
    obtain ⟨pre, s, b, rfl, rfl, hs, hx, hJs⟩ := hrel
    cases b with
    | false =>
      gi_wp2
      go_end0
      exact ⟨⟨_, rfl⟩, .inl ⟨pre, by simpa using hx.symm, hJs⟩⟩
    | true =>
      have hx0 : parts t = pre ++ parts s := by simpa using hx
      clear hx
      have HC := fun W => cut_any s (by omega) W
      replace HC := hide HC
      cases hh : hasS s with
      | false =>
        have hp : parts t = pre ++ [hd s] := by rw [hx0, parts_not s hh]
        have hlen : pre.length < (parts t).length := by rw [hp]; simp
        obtain ⟨tt, htt⟩ : ∃ tt, tt = hd s := ⟨_, rfl⟩
        obtain ⟨uu, huu⟩ : ∃ uu, uu = tl s := ⟨_, rfl⟩
        have hul : uu.length ≤ t.length := by rw [huu, (cut_not s hh).2]; simp
        rw [hh, ← htt, ← huu] at HC
        rw [← htt] at hp
        clear htt huu hh
        replace hp := hide hp
        replace hx0 := hide hx0
        gi_wp2_with (refine ⟨trivial, ?_⟩; gi_at_call 63; refine (callsIn_wide.2 (unhide HC _)).mono ?_; rintro e w' ⟨rfl, nn, rfl⟩; (obtain ⟨fn, tmps, assign, body, hy, hR⟩ := hY pre tt (wr.drewN nn) (abides_drewN hJ hJs nn) hlen))
        gi_wp2
        refine hR.mono ?_
        rintro e W3 (⟨rfl, hJ3, _⟩ | ⟨rfl, hJx3⟩)
        · gi_wp2
          go_roundw
          case rel => exact ⟨pre ++ [tt], uu, false, rfl, rfl, hul, by simpa using unhide hp, hJ3⟩
          case measure => exact Nat.succ_pos _
        · gi_wp2
          refine bodyPost_ret (results_none rfl _ _ _) rfl ?_
          exact ⟨⟨_, rfl⟩, .inr ⟨pre ++ [tt], ⟨[], by simpa using (unhide hp).symm⟩, hJx3⟩⟩
      | true =>
        have hp := pre_snoc (hx0.trans (by rw [parts_has s hh]))
        have hlen : pre.length < (parts t).length := by rw [hp]; simp
        have htl := tl_lt hh
        obtain ⟨tt, htt⟩ : ∃ tt, tt = hd s := ⟨_, rfl⟩
        obtain ⟨uu, huu⟩ : ∃ uu, uu = tl s := ⟨_, rfl⟩
        rw [← huu] at htl
        rw [hh, ← htt, ← huu] at HC
        rw [← htt, ← huu] at hp
        clear htt huu hh
        replace hp := hide hp
        replace hx0 := hide hx0
        gi_wp2_with (refine ⟨trivial, ?_⟩; gi_at_call 63; refine (callsIn_wide.2 (unhide HC _)).mono ?_; rintro e w' ⟨rfl, nn, rfl⟩; (obtain ⟨fn, tmps, assign, body, hy, hR⟩ := hY pre tt (wr.drewN nn) (abides_drewN hJ hJs nn) hlen))
        gi_wp2
        refine hR.mono ?_
        rintro e W3 (⟨rfl, hJ3, _⟩ | ⟨rfl, hJx3⟩)
        · gi_wp2
          go_roundw
          case rel => exact ⟨pre ++ [tt], uu, true, rfl, rfl, by omega, by simpa using unhide hp, hJ3⟩
          case measure => show uu.length + 1 < s.length + 1; omega
        · gi_wp2
          refine bodyPost_ret (results_none rfl _ _ _) rfl ?_
          exact ⟨⟨_, rfl⟩, .inr ⟨pre ++ [tt], ⟨parts uu, by simpa using (unhide hp).symm⟩, hJx3⟩⟩
theorem parts_stops (t : List UInt8) (ht : t.length ≤ 1000) (n : Nat) (hn : 1 ≤ n) (Bn : Nat) (w : World) (hBn : Bn < w.heap.size) (hc : w.cell? ⟨Bn, 0, none⟩ = some (.string (bz t))) :
    SeqStopsK Fence.wide n Try.prog 66 #[.pointer (some ⟨Bn, 0, none⟩)] (fun x : List UInt8 => #[Value.string (bz x)]) (fun _ _ => True) (fun ys => ys = parts t) (fun pre => pre <+: parts t) (parts t).length w := fun l J Jx W hW hJ _ hY h0 =>
  parts_iter t ht n hn l Bn J Jx W.heap.size hJ hY W ((hW.cell (p := ⟨Bn, 0, none⟩) hBn).trans hc) h0

theorem okP_bad {pre : List (List UInt8)} {x : List UInt8} (h : x.isEmpty = true ∨ (x == [46]) = true ∨ (x == [46, 46]) = true) : (pre ++ [x]).all okP = false := by
  rw [List.all_eq_false]
  refine ⟨x, by simp, ?_⟩
  rcases h with h | h | h <;> simp [okP, isE, isD, isU, h]
theorem okP_good {pre : List (List UInt8)} {x : List UInt8} (hp : pre.all okP = true) (h1 : x.isEmpty = false) (h2 : (x == [46]) = false) (h3 : (x == [46, 46]) = false) : (pre ++ [x]).all okP = true := by
  rw [List.all_append, hp]
  simp [okP, isE, isD, isU, h1, h2, h3]
theorem kb_true {w : World} : ∀ (W : World) (l : Nat) (o o' : Obj), w.heap.size ≤ l → W.heap[l]? = some o → o.isCells = false → o.isWalk = false → (fun _ _ => True : World → World → Prop) W (W.putObj l o') := fun _ _ _ _ _ _ _ _ => trivial

/-- Between two rounds; and where a round has left. -/
def NmI (w0 : World) (pre : List (List UInt8)) (W : World) : Prop := (pre.all okP = true ∧ Boxed W w0.heap.size 4 (.bool false)) ∧ Below w0.heap.size w0 W
def NmX (w0 : World) (c : Code) (pre : List (List UInt8)) (W : World) : Prop := ((c = .ret ∧ pre.all okP = false) ∧ Boxed W w0.heap.size 4 (.bool false)) ∧ Below w0.heap.size w0 W
theorem nmI_own (w0 : World) (B : Nat) (hB : w0.heap.size ≤ B) : OwnFrom B (NmI w0) :=
  OwnFrom.and (OwnFrom.and (ownFrom_pure _ _) (Own.from (boxed_own _ _ (fun _ => .bool false)) _)) (ownFrom_below (Nat.le_refl _) hB)
theorem nmX_own (w0 : World) (c : Code) (B : Nat) (hB : w0.heap.size ≤ B) : OwnFrom B (NmX w0 c) :=
  OwnFrom.and (OwnFrom.and (ownFrom_pure _ _) (Own.from (boxed_own _ _ (fun _ => .bool false)) _)) (ownFrom_below (Nat.le_refl _) hB)
theorem nm_leave {w0 W : World} {pre : List (List UInt8)} {x : List UInt8} (B : Nat) (hb : Boxed W w0.heap.size 4 (.bool false)) (hB : Below w0.heap.size w0 W) (h : (pre ++ [x]).all okP = false) :
    KeepsFrom B W (W.setCell ⟨w0.heap.size, 0, none⟩ (.bool false)) ∧ NmX w0 .ret (pre ++ [x]) (W.setCell ⟨w0.heap.size, 0, none⟩ (.bool false)) :=
  ⟨(KeepsOthers.setCell _ _ _).from _, ⟨⟨rfl, h⟩, hb.set _⟩, hB.setCell (p := ⟨w0.heap.size, 0, none⟩) (Nat.le_refl _) _⟩
theorem all_prefix {pre ps : List (List UInt8)} (h : pre <+: ps) (hp : pre.all okP = false) : ps.all okP = false := by
  rw [List.all_eq_false] at *
  obtain ⟨x, hx, h'⟩ := hp
  exact ⟨x, h.subset hx, h'⟩
set_option maxRecDepth 100000 in
set_option maxHeartbeats 1000000 in
theorem isName_loop (t : List UInt8) (h96 : t.length ≤ 96) (ho : ofName t = true) (w : World) :
    Calls Try.prog 61 #[.string (bz t)] w fun e W' => e = .returned (.bool ((parts t).all okP)) ∧ Below w.heap.size w W' := by
  have HO := fun W => ofName_any t (by omega) W
  rw [ho] at HO
  clear ho
  have HT : t.length ≤ 1000 := by omega
  replace HO := hide HO
  have hd : decide ((96 : Int) < (t.length : Int)) = false := decide_eq_false (by omega)
  refine (callsIn_wide (n := 3)).1 ?_
  refine callsIn_of_wp_marks Try.func61 rfl trivial ?_ rfl
  simp only [Try.ntmps61, List.size_toArray, List.length_cons, List.length_nil, Nat.reduceAdd, Nat.reduceSub, Array.replicate_succ, Array.replicate_zero, List.push_toArray, List.append_toArray, List.nil_append, List.cons_append]
  gi_wp2_with (first
    | (refine ⟨trivial, ?_⟩; gi_at_call 65; refine (callsIn_wide.2 (unhide HO _)).mono ?_; rintro e w' ⟨rfl, rfl⟩)
    | (refine ⟨trivial, ?_⟩; gi_at_call 62; refine (callsIn_wide.2 (parts_maker t _)).mono ?_; rintro e w' ⟨rfl, rfl⟩))
  have c0 := Boxed.new w 4 (.bool false)
  have c1 := Boxed.new (w.alloc (.cells #[.bool false] 4)) 9 (.string (bz t))
  simp only [World.size_alloc] at c1
  have hB0 : Below w.heap.size w ((w.alloc (.cells #[.bool false] 4)).alloc (.cells #[.string (bz t)] 9)) := ((Below.refl _ w).alloc (Nat.le_refl _) _).alloc (by simp) _
  refine wpIn_rangeFunc_ownG rfl (by omega) (gf := 66) (lb := #[.pointer (some ⟨w.heap.size + 1, 0, none⟩)]) rfl trivial (enters_of Try.func66 (by kernel_rfl) rfl)
    (parts_stops t HT (3 - 1) (by omega) (w.heap.size + 1) _ (by simp) c1.cell) (fun _ _ => trivial) kb_true (Below.refl _ _) (fun _ => rfl)
    (NmI w) (NmX w) (nmI_own w _ (by simp; omega)) (fun c => nmX_own w c _ (by simp; omega))
    ⟨⟨rfl, c0.alloc _⟩, hB0⟩
    (fun x => { tmps := #[.string (bz t), undef, .pointer (some ⟨w.heap.size, 0, none⟩), .string (bz x), .string (bz t), .int .i64 t.length, .bool false, .bool false, .string (bz t), .bool true, .bool false, .bool false, .string (bz t), .func (.func 66) #[] #[.pointer (some ⟨w.heap.size + 1, 0, none⟩)], .string (bz x), undef, undef, undef, undef, undef], defers := [] }) ?assign ?body ?done ?stop
  case assign =>
    intro l x W K hK
    gi_wp2
    exact hK
  case body =>
    rintro l pre x W ⟨⟨hp, hb⟩, hB⟩ _
    have hc := hb.cell
    have hf := hb.frozen
    cases e1 : x.isEmpty with
    | true =>
      gi_wp2
      exact nm_leave _ hb hB (okP_bad (.inl e1))
    | false =>
      cases e2 : x == [46] with
      | true =>
        gi_wp2
        exact nm_leave _ hb hB (okP_bad (.inr (.inl e2)))
      | false =>
        cases e3 : x == [46, 46] with
        | true =>
          gi_wp2
          exact nm_leave _ hb hB (okP_bad (.inr (.inr e3)))
        | false =>
          gi_wp2
          exact ⟨KeepsFrom.refl _ _, trivial, ⟨okP_good hp e1 e2 e3, hb⟩, hB⟩
  case done =>
    rintro D ys W hD rfl ⟨⟨hp, hb⟩, hB⟩ hK
    have hc := hb.cell
    have hf := hb.frozen
    replace hp := hide hp
    gi_wp2
    have hK' := (KeepsOthers.setCell W ⟨w.heap.size, 0, none⟩ (.bool true)).same D _ hK rfl
    refine ⟨by simp, .inl ⟨_, _, rfl, run_takeDeferred hK', ?_⟩⟩
    have hc5 := cell_kept (hb.set (.bool true)).cell (grownBy_putObj' _ D (.deferred none)) (fun r e => by cases e; exact ⟨_, hK', rfl⟩)
    refine ⟨.bool true, ?_, by rw [unhide hp], (hB.setCell (p := ⟨w.heap.size, 0, none⟩) (Nat.le_refl _) _).trans (belowK_b (w := w) (Nat.le_refl _) _ D _ _ (by simp at hD; omega) hK' rfl rfl)⟩
    simp [results, Try.f61, go_sem, hc5]
  case stop =>
    rintro D c pre W hD hpre ⟨⟨⟨rfl, hp⟩, hb⟩, hB⟩ hK
    have hc := hb.cell
    replace hp := hide (all_prefix hpre hp)
    clear hpre
    gi_wp2
    refine ⟨by simp, .inl ⟨_, _, rfl, run_takeDeferred hK, ?_⟩⟩
    have hc5 := cell_kept hc (grownBy_putObj' _ D (.deferred none)) (fun r e => by cases e; exact ⟨_, hK, rfl⟩)
    refine ⟨.bool false, ?_, by rw [unhide hp], hB.trans (belowK_b (w := w) (Nat.le_refl _) W D _ _ (by simp at hD; omega) hK rfl rfl)⟩
    simp [results, Try.f61, go_sem, hc5]

set_option maxHeartbeats 400000 in
theorem isName_any (t : List UInt8) (hl : t.length ≤ 1000) (w : World) :
    Calls Try.prog 61 #[.string (bz t)] w fun e W' => e = .returned (.bool (nameB t)) ∧ Below w.heap.size w W' := by
  by_cases h96 : t.length ≤ 96
  · cases ho : ofName t with
    | true =>
      refine (isName_loop t h96 ho w).mono fun e w' ⟨he, hw⟩ => ⟨?_, hw⟩
      rw [he]; simp [nameB, h96, ho]
    | false =>
      have hn : nameB t = false := by simp [nameB, ho]
      have HO := fun W => ofName_any t hl W
      rw [ho] at HO
      rw [hn]
      clear ho hn
      replace HO := hide HO
      have hd : decide ((96 : Int) < (t.length : Int)) = false := decide_eq_false (by omega)
      go_enter Try.func61, Try.ntmps61
      go_wp2_with (go_at_call 65; refine (unhide HO _).mono ?_; rintro e w' ⟨rfl, rfl⟩)
      exact bodyPost_ret (v := .bool false) (by simp [results, Try.results61, go_sem]) rfl ⟨rfl, (Below.refl _ _).alloc (Nat.le_refl _) _⟩
  · have hn : nameB t = false := by simp [nameB]; intro h; omega
    rw [hn]
    clear hn
    have hd : decide ((96 : Int) < (t.length : Int)) = true := decide_eq_true (by omega)
    go_enter Try.func61, Try.ntmps61
    go_wp2_with fail
    exact bodyPost_ret (v := .bool false) (by simp [results, Try.results61, go_sem]) rfl ⟨rfl, (Below.refl _ _).alloc (Nat.le_refl _) _⟩
end Go.Proofs.Ytnjepbehfioclaa
