import Derived.Test.YteokimebfbnlkaaW4
namespace Go.Proofs.Yteokimebfbnlkaa
open Go.RowKit

theorem okF_len {size a : Int} {l : List Ex} (h : okF size a l = true) (ha : a ≤ size) : 2 * (l.length : Int) ≤ size - a := by
  induction l generalizing a with
  | nil => simp; omega
  | cons f r ih =>
    rw [okF_cons] at h
    have := ih h.2.2 h.1.2.2
    simp only [List.length_cons]
    omega

/-- 'make([]T, n, c)', for every world. -/
theorem run_mk2 {P : Program} (t e : TypeId) (i : TypeInfo) (z : Value) (size : Nat) (ht : P.underlying t = some (.slice e)) (hi : P.info? e = some i) (hz : i.zero = some z) (hsize : i.size = size)
    (n c : Nat) (hnc : n ≤ c) (hbytes : i.bytes * c ≤ 281474976710656) (h63 : c ≤ 9223372036854775807) (W : World) :
    (Instr.makeSlice t (.int .i64 (n : Int)) (.int .i64 (c : Int))).run P W = .ok (.slice (some ⟨W.heap.size, 0, none⟩) n c) (W.alloc (.cells (madeCells z.cells (c * size)) e)) := by
  subst hsize
  have hb' : (i.bytes : Int) * (c : Int) ≤ 281474976710656 := by
    have h : ((i.bytes * c : Nat) : Int) ≤ 281474976710656 := by omega
    rwa [Int.natCast_mul] at h
  have hr := run_make (P := P) W t e i z ht hi hz .i64 .i64 n c (by omega) (by omega) hb' (by omega)
  simp only [Int.toNat_natCast] at hr
  exact hr

/-- An append as one step of a region that draws its order. -/
theorem step_app {P : Program} {ops : Array Oper} {o : Oper} {a : Act} {w : World} {K : Act → World → Prop} {Q : Exit → Act → World → Prop} {E : Prop} (hgd : o.guard = none) (s x : Operand) (t : TypeId)
    (ho : o.op = .call { callee := .builtin .append, args := #[s, x], argTypes := #[t, t] })
    (base : Nat) (e : TypeId) (i : TypeInfo) (z : Value) (size bytes : Nat) (ht : P.underlying t = some (.slice e)) (hi : P.info? e = some i) (hz : i.zero = some z)
    (hsize : i.size = size) (hby : i.bytes = bytes) (hzs : z.cells.size = size) (hsz : 0 < size)
    (v : Value) (n : Nat) (xs : List Value) (hs : a.eval s = v) (hown : w.ownsRow base e size v n xs)
    (A : Option Addr) (m c : Nat) (news : List Value) (hx : a.eval x = .slice A m c) (hl : news.length = m * size) (hr : SrcOk w A m news) (h1 : ∀ u ∈ news, u.oneCell' = true)
    (h63 : n + m ≤ maxLen) (hbytes : (n + m) * bytes ≤ 140737488355328) (hbase : base ≤ w.heap.size)
    (h : ∀ v' w', w'.ownsRow base e size v' (n + m) (xs ++ news) → w.grownBy w' v.ownBlock → K (a.put o.dst v') w') :
    if Region.wanted o (yielded ops a.tmps) = true then Oper.wp P o a w K Q else E := by
  have hw : Region.wanted o (yielded ops a.tmps) = true := by simp [Region.wanted, hgd]
  rw [if_pos hw]
  exact wp_app w s x t ho base e i z size bytes ht hi hz hsize hby hzs hsz v n xs hs hown A m c news hx hl hr h1 h63 hbytes hbase h

/-- A fresh row with no element and room. -/
theorem own_fresh (w : World) (base g : Nat) (e : TypeId) (size c : Nat) (cs : Array Value) (hg : g = w.heap.size) (hb : base ≤ w.heap.size) (hc : c ≤ maxLen) (hs : cs.size = c * size) :
    (w.alloc (.cells cs e)).ownsRow base e size (.slice (some ⟨g, 0, none⟩) 0 c) 0 [] := by
  subst hg
  exact ⟨by simp, .inr ⟨w.heap.size, c, cs, rfl, hb, heap_alloc_new w _, Nat.zero_le _, hc, hs, by simp⟩⟩

theorem own_drew {w : World} {base : Nat} {e : TypeId} {size : Nat} {v : Value} {n : Nat} {xs : List Value} (h : w.ownsRow base e size v n xs) : w.drew.ownsRow base e size v n xs := h

theorem info26 : (Try.prog.info? 26).map (fun i => (i.zero, i.size, i.bytes)) = some (some (.agg #[.int .i64 0, .int .i64 0]), 2, 16) := by kernel_rfl
theorem made_size (c : Nat) : (madeCells (Value.agg #[.int .i64 0, .int .i64 0]).cells (c * 2)).size = c * 2 := by simp [madeCells]

theorem grown_below {w w' : World} {g k c : Nat} (B : Nat) (h : B ≤ w.heap.size) (hg : w.grownBy w' (Value.slice (some ⟨g, 0, none⟩) k c).ownBlock) (hB : B ≤ g) : Below B w w' :=
  (Below.refl B w).grown hg h (by
    intro k hk
    simp [Value.ownBlock] at hk
    omega)

theorem src_lit {w : World} {g : Nat} {a b : Value} {t : TypeId} (hg : Blk w g t #[a, b]) : SrcOk w (some ⟨g, 0, none⟩) 1 [a, b] := fun _ => by
  refine ⟨_, rfl, fun j u hu => ?_⟩
  have hc := hg.cell j
  have : w.cell? ⟨g, 0 + j, none⟩ = some u := by
    rw [Nat.zero_add, hc]
    simpa using hu
  unfold Addr.add
  split
  · rename_i h0; subst h0; exact this
  · exact this
theorem own_base {w : World} {base : Nat} {e : TypeId} {size : Nat} {v : Value} {n : Nat} {xs : List Value} (h : w.ownsRow base e size v n xs) : ∀ k, v.ownBlock = some k → base ≤ k := by
  intro k hk
  rcases h.2 with ⟨rfl, _⟩ | ⟨g, cap, cur, rfl, hb, _⟩
  · simp [Value.ownBlock] at hk
  · simp [Value.ownBlock] at hk; omega
theorem Blk.grew {w w' : World} {g base : Nat} {t e : TypeId} {cs : Array Value} {size n : Nat} {v : Value} {xs : List Value} (h : Blk w g t cs) (ho : w.ownsRow base e size v n xs) (hne : e ≠ t) (gr : w.grownBy w' v.ownBlock) : Blk w' g t cs := by
  refine (gr.block g h.lt fun e' => ?_).trans h
  rcases ho.2 with ⟨rfl, _⟩ | ⟨g', cap, cur, rfl, _, hg, _⟩
  · simp [Value.ownBlock] at e'
  · simp [Value.ownBlock] at e'
    subst e'
    exact Blk.ne_ (t := e) (cs := cur) hg h hne rfl

/-- What cut has put together behind 'k' rounds. -/
def cutAcc (p : List Ex) (f s : Ex) : Nat → List Ex
  | 0 => p
  | 1 => p ++ piece f.at_ (s.at_ - f.at_)
  | _ => p ++ pieces f s
theorem cut_index (p : List Ex) (f s : Ex) : ∀ k : Nat, k < 2 → ∃ pa pn, (∀ W, (Instr.index 65 (.agg #[.int .i64 f.at_, .int .i64 (s.at_ - f.at_), .int .i64 (s.at_ + s.len), .int .i64 (f.at_ + f.len - (s.at_ + s.len))]) (.int .i64 (k : Int))).run Try.prog W = .ok (.agg #[.int .i64 pa, .int .i64 pn]) W) ∧
    cutAcc p f s (k + 1) = cutAcc p f s k ++ piece pa pn := by
  intro k hk
  obtain rfl | rfl : k = 0 ∨ k = 1 := by omega
  · exact ⟨f.at_, s.at_ - f.at_, fun W => by kernel_rfl, rfl⟩
  · exact ⟨s.at_ + s.len, f.at_ + f.len - (s.at_ + s.len), fun W => by kernel_rfl, by simp [cutAcc, pieces]⟩
theorem cutAcc_len (p : List Ex) (f s : Ex) : ∀ k : Nat, (cutAcc p f s k).length ≤ p.length + 2 := by
  intro k
  match k with
  | 0 => simp [cutAcc]
  | 1 => simp only [cutAcc, piece]; split <;> simp
  | k + 2 => simp only [cutAcc, pieces, piece]; split <;> split <;> simp

set_option maxHeartbeats 4000000 in
theorem cut_any (lo : Nat) (v : Value) (x : Xs) (p q : List Ex) (f s : Ex) (w : World) (h : XsR lo w.heap.size w v x) (hx : x.free = p ++ f :: q) (hL : x.free.length ≤ 1000000)
    (hs : In64 (s.at_ + s.len)) (hf : In64 (f.at_ + f.len)) (h1 : In64 (s.at_ - f.at_)) (h2 : In64 (f.at_ + f.len - (s.at_ + s.len))) :
    Calls Try.prog 27 #[v, .int .i64 (p.length : Nat), exV s] w fun e w' => ∃ v', e = .returned (.agg #[.int .i64 x.size, v']) ∧ Exs w.heap.size w'.heap.size w' v' (p ++ (pieces f s ++ q)) ∧ Below w.heap.size w w' := by
  obtain ⟨b, rfl, hb⟩ := h
  have hb' := hb
  obtain ⟨A, c, rfl, g1, g2, g3⟩ := hb'.open
  obtain ⟨i0, hi0, hz0, hz1, hz2⟩ := info_parts info26
  have hlen : x.free.length = p.length + 1 + q.length := by rw [hx]; simp; omega
  obtain ⟨B, off, rfl, _, k2', c0, c1⟩ := g3 p.length (by omega)
  have hlf := fun W => left_any f s W hs hf h1 h2
  have hmk := run_mk2 (P := Try.prog) 22 26 i0 _ 2 Try.underlying22 hi0 hz0 hz1 0 (x.free.length + 1) (by omega) (by rw [hz2]; omega) (by omega)
  obtain ⟨Z, hZ⟩ : ∃ Z, Z = madeCells (Value.agg #[.int .i64 0, .int .i64 0]).cells ((x.free.length + 1) * 2) := ⟨_, rfl⟩
  rw [← hZ] at hmk
  have hZs : Z.size = (x.free.length + 1) * 2 := by rw [hZ]; exact made_size _
  have hsub := hb.sub 0 p.length (by omega) (by omega) c (by omega) g2
  simp only [Nat.zero_mul, Nat.add_zero, Nat.sub_zero, List.drop_zero] at hsub
  have htk : x.free.take p.length = p := by rw [hx]; simp
  rw [htk] at hsub
  replace hb := hide hb; replace hlf := hide hlf; replace hZ := hide hZ; replace hZs := hide hZs; replace hsub := hide hsub
  have hgf : x.free[p.length]'(by omega) = f := by simp [hx]
  rw [hgf] at c0 c1
  clear g3 hgf htk hs hf h1 h2 hb'
  replace hx := hide hx
  simp only [Int.natCast_add, Int.cast_ofNat_Int] at hmk
  obtain ⟨sa, sl⟩ := s
  obtain ⟨fa, fl⟩ := f
  generalize hn : x.free.length = n at *
  generalize hm : p.length = m at *
  generalize hsz : x.size = size at *
  have ha1 : 0 + m ≤ maxLen := by simp only [maxLen]; omega
  have ha2 : (0 + m) * 16 ≤ 140737488355328 := by omega
  have ha3 : n + 1 ≤ maxLen := by simp only [maxLen]; omega
  have ha4 : (p.flatMap exv).length = m * 2 := by rw [flat_len, hm]
  have ha5 := flat_one p
  have y0 : (0 : Int) ≤ (m : Int) := by omega
  have y1 : m ≤ n := by omega
  have y2 : m < n := by omega
  have y3 : n ≠ m := by omega
  have y4 : m ≤ c := by omega
  have y5 : IntKind.i64.wrap ((n : Int) + 1) = (n : Int) + 1 := IntWalk.i64_in _ (by omega)
  replace hsz := hide hsz; replace hn := hide hn; replace hm := hide hm; replace ha1 := hide ha1; replace ha2 := hide ha2; replace ha3 := hide ha3; replace ha4 := hide ha4; replace ha5 := hide ha5; replace hL := hide hL; replace hlen := hide hlen
  unfold exV at *
  simp only [] at *
  go_enter Try.func27, Try.ntmps27
  go_upto_region 1 with fail
  go_cut [7] (fun s7 wx => ∃ (A' : Option Addr) (c' : Nat), s7 = .slice A' m c' ∧ Hid (wx.ownsRow w.heap.size 26 2 (.slice A' m c') m (p.flatMap exv)) ∧ Hid (Below w.heap.size w wx) ∧ Hid (Blk wx w.heap.size 24 #[.int .i64 size, .slice (some ⟨B, off, none⟩) n c]) ∧ Hid (Blk wx (w.heap.size + 1) 26 #[.int .i64 sa, .int .i64 sl]) ∧ Hid (Blk wx (w.heap.size + 1 + 1) 24 #[.int .i64 0, .slice none 0 0]))
  case first =>
    go_region_held3 (fun W => W.cell? ⟨w.heap.size, 1, none⟩ = some (.slice (some ⟨B, off, none⟩) n c)) (first | exact (by go_simp))
      (first
        | (refine step_app rfl (.tmp 14) (.tmp 18) 22 rfl w.heap.size 26 i0 _ 2 16 Try.underlying22 hi0 hz0 hz1 hz2 rfl (Nat.succ_pos _) _ 0 [] rfl (own_drew (own_fresh _ w.heap.size _ 26 2 (n + 1) Z (by simp <;> omega) (by simp <;> omega) (unhide ha3) (unhide hZs))) _ m c (p.flatMap exv) rfl (unhide ha4) (SrcOk.below (unhide hsub).src.2 (by (repeat (first | with_reducible exact Below.refl _ _ | with_reducible assumption | with_reducible refine Below.drew ?_ | with_reducible refine bl_alloc ?_ _ | with_reducible refine bl_call ?_ (by assumption) | (focus (with_reducible refine Below.setCell ?_ ?_ _; rotate_left; focus (first | omega | (simp <;> omega)))) | fail)))) (unhide ha5) (unhide ha1) (unhide ha2) (by simp <;> omega) ?_
           intro v' w1 hown hg
           have hb1 := grown_below (w.heap.size + 1 + 1 + 1) (by simp) hg (by simp)
           obtain ⟨A', c', rfl⟩ := ownsRow_form hown
           obtain ⟨hc1, hf1⟩ : (∀ b o, b < w.heap.size + 1 + 1 + 1 → w1.cell? ⟨b, o, none⟩ = _) ∧ True := ⟨fun b o h => hb1.cell (p := ⟨b, o, none⟩) h, trivial⟩
           have hz1 := hb1.size
           (try simp at hz1)
))
    go_wp2_with fail
    go_meet
    refine ⟨A', c', rfl, hide (by simpa using hown), hide ?_, hide (by (repeat (first | with_reducible assumption | (focus (with_reducible refine Blk.new ?_; focus (simp <;> fail))) | with_reducible refine Blk.set3 (a := .slice none 0 0) (b := .slice none 0 0) (c := .int .i64 0) ?_ | with_reducible refine Blk.alloc ?_ _ | with_reducible refine Blk.drew ?_ | (focus (with_reducible refine Blk.far ?_ ?_ _; rotate_left; focus (first | omega | (simp <;> omega)))) | (focus (with_reducible refine Blk.below ?_ hb1 ?_; rotate_left; focus (first | omega | (simp <;> omega)))) | (focus (with_reducible refine Blk.below ?_ hb2 ?_; rotate_left; focus (first | omega | (simp <;> omega)))) | (focus (with_reducible refine Blk.below ?_ hb3 ?_; rotate_left; focus (first | omega | (simp <;> omega)))) | (focus (with_reducible refine Blk.below ?_ hb4 ?_; rotate_left; focus (first | omega | (simp <;> omega)))) | (focus (with_reducible refine Blk.below ?_ hb5 ?_; rotate_left; focus (first | omega | (simp <;> omega)))) | (focus (with_reducible refine Blk.below ?_ hb6 ?_; rotate_left; focus (first | omega | (simp <;> omega)))) | (focus (with_reducible refine Blk.below ?_ hb7 ?_; rotate_left; focus (first | omega | (simp <;> omega)))) | (focus (with_reducible refine Blk.below ?_ hb8 ?_; rotate_left; focus (first | omega | (simp <;> omega)))) | (focus (with_reducible refine Blk.below ?_ hb9 ?_; rotate_left; focus (first | omega | (simp <;> omega)))) | (focus (with_reducible refine Blk.below ?_ hb10 ?_; rotate_left; focus (first | omega | (simp <;> omega)))) | (focus (with_reducible refine Blk.below ?_ hb11 ?_; rotate_left; focus (first | omega | (simp <;> omega)))) | (focus (with_reducible refine Blk.below ?_ hb12 ?_; rotate_left; focus (first | omega | (simp <;> omega)))) | (focus (with_reducible refine Blk.below ?_ hb13 ?_; rotate_left; focus (first | omega | (simp <;> omega)))) | (focus (with_reducible refine Blk.below ?_ hb14 ?_; rotate_left; focus (first | omega | (simp <;> omega)))) | (focus (with_reducible refine Blk.below ?_ hb15 ?_; rotate_left; focus (first | omega | (simp <;> omega)))) | fail))), hide (by (repeat (first | with_reducible assumption | (focus (with_reducible refine Blk.new ?_; focus (simp <;> fail))) | with_reducible refine Blk.set3 (a := .slice none 0 0) (b := .slice none 0 0) (c := .int .i64 0) ?_ | with_reducible refine Blk.alloc ?_ _ | with_reducible refine Blk.drew ?_ | (focus (with_reducible refine Blk.far ?_ ?_ _; rotate_left; focus (first | omega | (simp <;> omega)))) | (focus (with_reducible refine Blk.below ?_ hb1 ?_; rotate_left; focus (first | omega | (simp <;> omega)))) | (focus (with_reducible refine Blk.below ?_ hb2 ?_; rotate_left; focus (first | omega | (simp <;> omega)))) | (focus (with_reducible refine Blk.below ?_ hb3 ?_; rotate_left; focus (first | omega | (simp <;> omega)))) | (focus (with_reducible refine Blk.below ?_ hb4 ?_; rotate_left; focus (first | omega | (simp <;> omega)))) | (focus (with_reducible refine Blk.below ?_ hb5 ?_; rotate_left; focus (first | omega | (simp <;> omega)))) | (focus (with_reducible refine Blk.below ?_ hb6 ?_; rotate_left; focus (first | omega | (simp <;> omega)))) | (focus (with_reducible refine Blk.below ?_ hb7 ?_; rotate_left; focus (first | omega | (simp <;> omega)))) | (focus (with_reducible refine Blk.below ?_ hb8 ?_; rotate_left; focus (first | omega | (simp <;> omega)))) | (focus (with_reducible refine Blk.below ?_ hb9 ?_; rotate_left; focus (first | omega | (simp <;> omega)))) | (focus (with_reducible refine Blk.below ?_ hb10 ?_; rotate_left; focus (first | omega | (simp <;> omega)))) | (focus (with_reducible refine Blk.below ?_ hb11 ?_; rotate_left; focus (first | omega | (simp <;> omega)))) | (focus (with_reducible refine Blk.below ?_ hb12 ?_; rotate_left; focus (first | omega | (simp <;> omega)))) | (focus (with_reducible refine Blk.below ?_ hb13 ?_; rotate_left; focus (first | omega | (simp <;> omega)))) | (focus (with_reducible refine Blk.below ?_ hb14 ?_; rotate_left; focus (first | omega | (simp <;> omega)))) | (focus (with_reducible refine Blk.below ?_ hb15 ?_; rotate_left; focus (first | omega | (simp <;> omega)))) | fail))), hide (by (repeat (first | with_reducible assumption | (focus (with_reducible refine Blk.new ?_; focus (simp <;> fail))) | with_reducible refine Blk.set3 (a := .slice none 0 0) (b := .slice none 0 0) (c := .int .i64 0) ?_ | with_reducible refine Blk.alloc ?_ _ | with_reducible refine Blk.drew ?_ | (focus (with_reducible refine Blk.far ?_ ?_ _; rotate_left; focus (first | omega | (simp <;> omega)))) | (focus (with_reducible refine Blk.below ?_ hb1 ?_; rotate_left; focus (first | omega | (simp <;> omega)))) | (focus (with_reducible refine Blk.below ?_ hb2 ?_; rotate_left; focus (first | omega | (simp <;> omega)))) | (focus (with_reducible refine Blk.below ?_ hb3 ?_; rotate_left; focus (first | omega | (simp <;> omega)))) | (focus (with_reducible refine Blk.below ?_ hb4 ?_; rotate_left; focus (first | omega | (simp <;> omega)))) | (focus (with_reducible refine Blk.below ?_ hb5 ?_; rotate_left; focus (first | omega | (simp <;> omega)))) | (focus (with_reducible refine Blk.below ?_ hb6 ?_; rotate_left; focus (first | omega | (simp <;> omega)))) | (focus (with_reducible refine Blk.below ?_ hb7 ?_; rotate_left; focus (first | omega | (simp <;> omega)))) | (focus (with_reducible refine Blk.below ?_ hb8 ?_; rotate_left; focus (first | omega | (simp <;> omega)))) | (focus (with_reducible refine Blk.below ?_ hb9 ?_; rotate_left; focus (first | omega | (simp <;> omega)))) | (focus (with_reducible refine Blk.below ?_ hb10 ?_; rotate_left; focus (first | omega | (simp <;> omega)))) | (focus (with_reducible refine Blk.below ?_ hb11 ?_; rotate_left; focus (first | omega | (simp <;> omega)))) | (focus (with_reducible refine Blk.below ?_ hb12 ?_; rotate_left; focus (first | omega | (simp <;> omega)))) | (focus (with_reducible refine Blk.below ?_ hb13 ?_; rotate_left; focus (first | omega | (simp <;> omega)))) | (focus (with_reducible refine Blk.below ?_ hb14 ?_; rotate_left; focus (first | omega | (simp <;> omega)))) | (focus (with_reducible refine Blk.below ?_ hb15 ?_; rotate_left; focus (first | omega | (simp <;> omega)))) | fail)))⟩
    exact Below.trans (by (repeat (first | with_reducible exact Below.refl _ _ | with_reducible assumption | with_reducible refine Below.drew ?_ | with_reducible refine bl_alloc ?_ _ | with_reducible refine bl_call ?_ (by assumption) | (focus (with_reducible refine Below.setCell ?_ ?_ _; rotate_left; focus (first | omega | (simp <;> omega)))) | fail)) : Below w.heap.size w _) (hb1.mono (by omega))
  case rest =>
    obtain ⟨A', c', rfl, o1, b1, k1, k2, k3⟩ := hcut
    have e0 := (unhide k1).cell 1
    have e1 := (unhide k2).cell 0
    have e2 := (unhide k2).cell 1
    have e3 := ((unhide b1).cell (p := ⟨B, off + m * 2, none⟩) k2').trans c0
    have e4 := ((unhide b1).cell (p := ⟨B, off + m * 2 + 1, none⟩) k2').trans c1
    simp at e0 e1 e2
    have y6 : w.heap.size + 1 + 1 < wc.heap.size := (unhide k3).lt
    have y7 : B < wc.heap.size := by omega
    clear c0 c1
    go_upto_region 2 with fail
    go_cut [26, 27] (fun s26 s27 wx => s26 = .agg #[.int .i64 fa, .int .i64 (sa - fa), .int .i64 (sa + sl), .int .i64 (fa + fl - (sa + sl))] ∧ s27 = .int .i64 0 ∧ Hid (wx.ownsRow w.heap.size 26 2 (.slice A' m c') m (p.flatMap exv)) ∧ Hid (Below w.heap.size w wx) ∧ Hid (Blk wx w.heap.size 24 #[.int .i64 size, .slice (some ⟨B, off, none⟩) n c]) ∧ Hid (Blk wx (w.heap.size + 1 + 1) 24 #[.int .i64 0, .slice none 0 0]))
    case first =>
      go_region_held3 (fun W => W.cell? ⟨w.heap.size, 1, none⟩ = some (.slice (some ⟨B, off, none⟩) n c) ∧ W.cell? ⟨w.heap.size + 1, 0, none⟩ = some (.int .i64 sa) ∧ W.cell? ⟨w.heap.size + 1, 1, none⟩ = some (.int .i64 sl) ∧ W.cell? ⟨B, off + m * 2, none⟩ = some (.int .i64 fa) ∧ W.cell? ⟨B, off + m * 2 + 1, none⟩ = some (.int .i64 fl)) (first | exact ⟨by assumption, by assumption, by assumption, by assumption, by assumption⟩ | exact ⟨by go_simp, by go_simp, by go_simp, by go_simp, by go_simp⟩)
        (first
          | (go_at_call 44; refine (unhide hlf _).mono ?_; rintro e w1 ⟨rfl, hb1⟩; obtain ⟨hc1, hf1⟩ := bcell hb1; have hz1 := hb1.size; (try simp at hz1); have q1 : w.heap.size < wc.heap.size := (by omega); have q2 : w.heap.size + 1 < wc.heap.size := (by omega); have r0 := (hc1 _ 1 q1).trans e0; have r1 := (hc1 _ 0 q2).trans e1; have r2 := (hc1 _ 1 q2).trans e2; have r3 := (hc1 _ _ y7).trans e3; have r4 := (hc1 _ _ y7).trans e4))
      go_wp2_with fail
      go_meet
      have k1' := unhide k1
      have k3' := unhide k3
      have b1' := unhide b1
      exact ⟨rfl, rfl, hide (own_below (own_drew (unhide o1)) hb1 (Nat.le_refl _)), hide (by (repeat (first | with_reducible exact Below.refl _ _ | with_reducible assumption | with_reducible refine Below.drew ?_ | with_reducible refine bl_alloc ?_ _ | with_reducible refine bl_call ?_ (by assumption) | (focus (with_reducible refine Below.setCell ?_ ?_ _; rotate_left; focus (first | omega | (simp <;> omega)))) | fail))), hide (by (repeat (first | with_reducible assumption | (focus (with_reducible refine Blk.new ?_; focus (simp <;> fail))) | with_reducible refine Blk.set3 (a := .slice none 0 0) (b := .slice none 0 0) (c := .int .i64 0) ?_ | with_reducible refine Blk.alloc ?_ _ | with_reducible refine Blk.drew ?_ | (focus (with_reducible refine Blk.far ?_ ?_ _; rotate_left; focus (first | omega | (simp <;> omega)))) | (focus (with_reducible refine Blk.below ?_ hb1 ?_; rotate_left; focus (first | omega | (simp <;> omega)))) | (focus (with_reducible refine Blk.below ?_ hb2 ?_; rotate_left; focus (first | omega | (simp <;> omega)))) | (focus (with_reducible refine Blk.below ?_ hb3 ?_; rotate_left; focus (first | omega | (simp <;> omega)))) | (focus (with_reducible refine Blk.below ?_ hb4 ?_; rotate_left; focus (first | omega | (simp <;> omega)))) | (focus (with_reducible refine Blk.below ?_ hb5 ?_; rotate_left; focus (first | omega | (simp <;> omega)))) | (focus (with_reducible refine Blk.below ?_ hb6 ?_; rotate_left; focus (first | omega | (simp <;> omega)))) | (focus (with_reducible refine Blk.below ?_ hb7 ?_; rotate_left; focus (first | omega | (simp <;> omega)))) | (focus (with_reducible refine Blk.below ?_ hb8 ?_; rotate_left; focus (first | omega | (simp <;> omega)))) | (focus (with_reducible refine Blk.below ?_ hb9 ?_; rotate_left; focus (first | omega | (simp <;> omega)))) | (focus (with_reducible refine Blk.below ?_ hb10 ?_; rotate_left; focus (first | omega | (simp <;> omega)))) | (focus (with_reducible refine Blk.below ?_ hb11 ?_; rotate_left; focus (first | omega | (simp <;> omega)))) | (focus (with_reducible refine Blk.below ?_ hb12 ?_; rotate_left; focus (first | omega | (simp <;> omega)))) | (focus (with_reducible refine Blk.below ?_ hb13 ?_; rotate_left; focus (first | omega | (simp <;> omega)))) | (focus (with_reducible refine Blk.below ?_ hb14 ?_; rotate_left; focus (first | omega | (simp <;> omega)))) | (focus (with_reducible refine Blk.below ?_ hb15 ?_; rotate_left; focus (first | omega | (simp <;> omega)))) | fail))), hide (by (repeat (first | with_reducible assumption | (focus (with_reducible refine Blk.new ?_; focus (simp <;> fail))) | with_reducible refine Blk.set3 (a := .slice none 0 0) (b := .slice none 0 0) (c := .int .i64 0) ?_ | with_reducible refine Blk.alloc ?_ _ | with_reducible refine Blk.drew ?_ | (focus (with_reducible refine Blk.far ?_ ?_ _; rotate_left; focus (first | omega | (simp <;> omega)))) | (focus (with_reducible refine Blk.below ?_ hb1 ?_; rotate_left; focus (first | omega | (simp <;> omega)))) | (focus (with_reducible refine Blk.below ?_ hb2 ?_; rotate_left; focus (first | omega | (simp <;> omega)))) | (focus (with_reducible refine Blk.below ?_ hb3 ?_; rotate_left; focus (first | omega | (simp <;> omega)))) | (focus (with_reducible refine Blk.below ?_ hb4 ?_; rotate_left; focus (first | omega | (simp <;> omega)))) | (focus (with_reducible refine Blk.below ?_ hb5 ?_; rotate_left; focus (first | omega | (simp <;> omega)))) | (focus (with_reducible refine Blk.below ?_ hb6 ?_; rotate_left; focus (first | omega | (simp <;> omega)))) | (focus (with_reducible refine Blk.below ?_ hb7 ?_; rotate_left; focus (first | omega | (simp <;> omega)))) | (focus (with_reducible refine Blk.below ?_ hb8 ?_; rotate_left; focus (first | omega | (simp <;> omega)))) | (focus (with_reducible refine Blk.below ?_ hb9 ?_; rotate_left; focus (first | omega | (simp <;> omega)))) | (focus (with_reducible refine Blk.below ?_ hb10 ?_; rotate_left; focus (first | omega | (simp <;> omega)))) | (focus (with_reducible refine Blk.below ?_ hb11 ?_; rotate_left; focus (first | omega | (simp <;> omega)))) | (focus (with_reducible refine Blk.below ?_ hb12 ?_; rotate_left; focus (first | omega | (simp <;> omega)))) | (focus (with_reducible refine Blk.below ?_ hb13 ?_; rotate_left; focus (first | omega | (simp <;> omega)))) | (focus (with_reducible refine Blk.below ?_ hb14 ?_; rotate_left; focus (first | omega | (simp <;> omega)))) | (focus (with_reducible refine Blk.below ?_ hb15 ?_; rotate_left; focus (first | omega | (simp <;> omega)))) | fail)))⟩
    case rest =>
      obtain ⟨rfl, rfl, o2, b2, h1, h3⟩ := hcut
      clear e0 e1 e2 e3 e4 y6 y7 o1 b1 k1 k2 k3
      have hidx := cut_index p ⟨fa, fl⟩ ⟨sa, sl⟩
      simp only [] at hidx
      have hacc := cutAcc_len p ⟨fa, fl⟩ ⟨sa, sl⟩
      replace hidx := hide hidx; replace hacc := hide hacc
      go_wp2_with fail
      go_loopw [7, 27] (fun v7 i wr => ∃ (k : Nat) (A2 : Option Addr) (c2 : Nat), k ≤ 2 ∧ i = .int .i64 k ∧ v7 = .slice A2 (cutAcc p ⟨fa, fl⟩ ⟨sa, sl⟩ k).length c2 ∧ Hid (wr.ownsRow w.heap.size 26 2 (.slice A2 (cutAcc p ⟨fa, fl⟩ ⟨sa, sl⟩ k).length c2) (cutAcc p ⟨fa, fl⟩ ⟨sa, sl⟩ k).length ((cutAcc p ⟨fa, fl⟩ ⟨sa, sl⟩ k).flatMap exv)) ∧ Hid (Below w.heap.size w wr) ∧ Hid (Blk wr w.heap.size 24 #[.int .i64 size, .slice (some ⟨B, off, none⟩) n c]) ∧ Hid (Blk wr (w.heap.size + 1 + 1) 24 #[.int .i64 0, .slice none 0 0])) (fun _ i _ => 2 - (intOf i).toNat)
      case atStart =>
        refine ⟨0, A', c', by omega, rfl, ?_, hide ?_, b2, h1, h3⟩
        · simp only [cutAcc]; rw [unhide hm]
        · simp only [cutAcc]; rw [unhide hm]; exact unhide o2
      case round =>
        obtain ⟨k, A2, c2, hk, rfl, rfl, o3, b3, h1, h3⟩ := hrel
        by_cases hlt : k < 2
        · obtain ⟨pa, pn, hix, happ⟩ := unhide hidx k hlt
          have hal := unhide hacc k
          replace happ := hide happ
          generalize hcl : (cutAcc p ⟨fa, fl⟩ ⟨sa, sl⟩ k).length = len at *
          replace hcl := hide hcl
          by_cases hpn : 0 < pn
          · have hap : cutAcc p ⟨fa, fl⟩ ⟨sa, sl⟩ (k + 1) = cutAcc p ⟨fa, fl⟩ ⟨sa, sl⟩ k ++ [⟨pa, pn⟩] := by rw [unhide happ, piece, if_pos hpn]
            replace hap := hide hap
            have u1 : len + 1 ≤ maxLen := by have := unhide hL; have := unhide hm; simp only [maxLen]; omega
            have u2 : (len + 1) * 16 ≤ 140737488355328 := by have := unhide hL; have := unhide hm; omega
            have u3 : ((cutAcc p ⟨fa, fl⟩ ⟨sa, sl⟩ k).flatMap exv).length = len * 2 := by rw [flat_len, unhide hcl]
            have u4 : ∀ u ∈ [Value.int .i64 pa, Value.int .i64 pn], u.oneCell' = true := by intro u hu; simp at hu; rcases hu with rfl | rfl <;> rfl
            replace u1 := hide u1; replace u2 := hide u2; replace u3 := hide u3; replace u4 := hide u4; replace hal := hide hal
            have y9 : w.heap.size ≤ wr.heap.size := (unhide b3).size
            go_wp2_with (first
              | (at_builtin
                 refine wpList_app _ rfl (.tmp 33) (.tmp 35) 22 rfl w.heap.size 26 i0 _ 2 16 Try.underlying22 hi0 hz0 hz1 hz2 rfl (Nat.succ_pos _) _ len ((cutAcc p ⟨fa, fl⟩ ⟨sa, sl⟩ k).flatMap exv) rfl (World.ownsRow.alloc (World.ownsRow.alloc (unhide o3) _) _) (some ⟨wr.heap.size + 1, 0, none⟩) 1 1 [.int .i64 pa, .int .i64 pn] rfl rfl (src_lit (Blk.new (by simp))) (unhide u4) (unhide u1) (unhide u2) (by simp; omega) ?_
                 intro v' w1 hown hg
                 obtain ⟨A3, c3, rfl⟩ := ownsRow_form hown))
            have b3' := unhide b3
            have B2 : Below w.heap.size w ((wr.alloc (.cells #[.int .i64 pa, .int .i64 pn] 26)).alloc (.cells #[.int .i64 pa, .int .i64 pn] 26)) := by (repeat (first | with_reducible exact Below.refl _ _ | with_reducible assumption | with_reducible refine Below.drew ?_ | with_reducible refine bl_alloc ?_ _ | with_reducible refine bl_call ?_ (by assumption) | (focus (with_reducible refine Below.setCell ?_ ?_ _; rotate_left; focus (first | omega | (simp <;> omega)))) | fail))
            have O2 : World.ownsRow ((wr.alloc (.cells #[.int .i64 pa, .int .i64 pn] 26)).alloc (.cells #[.int .i64 pa, .int .i64 pn] 26)) w.heap.size 26 2 (.slice A2 len c2) len ((cutAcc p ⟨fa, fl⟩ ⟨sa, sl⟩ k).flatMap exv) := World.ownsRow.alloc (World.ownsRow.alloc (unhide o3) _) _
            have H1 : Blk w1 w.heap.size 24 #[.int .i64 size, .slice (some ⟨B, off, none⟩) n c] := Blk.grew (((unhide h1).alloc _).alloc _) O2 (by decide) hg
            have H3 : Blk w1 (w.heap.size + 1 + 1) 24 #[.int .i64 0, .slice none 0 0] := Blk.grew (((unhide h3).alloc _).alloc _) O2 (by decide) hg
            have B4 : Below w.heap.size w w1 := bl_grown B2 hg (own_base O2)
            have hal2 : (cutAcc p ⟨fa, fl⟩ ⟨sa, sl⟩ (k + 1)).length = len + 1 := by rw [unhide hap]; simp [unhide hcl]
            have hafl : (cutAcc p ⟨fa, fl⟩ ⟨sa, sl⟩ (k + 1)).flatMap exv = (cutAcc p ⟨fa, fl⟩ ⟨sa, sl⟩ k).flatMap exv ++ [.int .i64 pa, .int .i64 pn] := by rw [unhide hap]; simp [exv]
            go_roundw
            case rel => exact ⟨k + 1, A3, c3, by omega, by go_num, by rw [hal2], hide (by rw [hal2, hafl]; exact hown), hide B4, hide H1, hide H3⟩
            case measure => simp [intOf]; omega
          · go_wp2_with fail
            go_roundw
            case rel =>
              have hap : cutAcc p ⟨fa, fl⟩ ⟨sa, sl⟩ (k + 1) = cutAcc p ⟨fa, fl⟩ ⟨sa, sl⟩ k := by rw [unhide happ, piece, if_neg hpn, List.append_nil]
              have b3' := unhide b3
              have h1' := unhide h1
              have h3' := unhide h3
              refine ⟨k + 1, A2, c2, by omega, by go_num, by rw [hap, unhide hcl], hide ?_, hide (by (repeat (first | with_reducible exact Below.refl _ _ | with_reducible assumption | with_reducible refine Below.drew ?_ | with_reducible refine bl_alloc ?_ _ | with_reducible refine bl_call ?_ (by assumption) | (focus (with_reducible refine Below.setCell ?_ ?_ _; rotate_left; focus (first | omega | (simp <;> omega)))) | fail))), hide (by (repeat (first | with_reducible assumption | (focus (with_reducible refine Blk.new ?_; focus (simp <;> fail))) | with_reducible refine Blk.set3 (a := .slice none 0 0) (b := .slice none 0 0) (c := .int .i64 0) ?_ | with_reducible refine Blk.alloc ?_ _ | with_reducible refine Blk.drew ?_ | (focus (with_reducible refine Blk.far ?_ ?_ _; rotate_left; focus (first | omega | (simp <;> omega)))) | (focus (with_reducible refine Blk.below ?_ hb1 ?_; rotate_left; focus (first | omega | (simp <;> omega)))) | (focus (with_reducible refine Blk.below ?_ hb2 ?_; rotate_left; focus (first | omega | (simp <;> omega)))) | (focus (with_reducible refine Blk.below ?_ hb3 ?_; rotate_left; focus (first | omega | (simp <;> omega)))) | (focus (with_reducible refine Blk.below ?_ hb4 ?_; rotate_left; focus (first | omega | (simp <;> omega)))) | (focus (with_reducible refine Blk.below ?_ hb5 ?_; rotate_left; focus (first | omega | (simp <;> omega)))) | (focus (with_reducible refine Blk.below ?_ hb6 ?_; rotate_left; focus (first | omega | (simp <;> omega)))) | (focus (with_reducible refine Blk.below ?_ hb7 ?_; rotate_left; focus (first | omega | (simp <;> omega)))) | (focus (with_reducible refine Blk.below ?_ hb8 ?_; rotate_left; focus (first | omega | (simp <;> omega)))) | (focus (with_reducible refine Blk.below ?_ hb9 ?_; rotate_left; focus (first | omega | (simp <;> omega)))) | (focus (with_reducible refine Blk.below ?_ hb10 ?_; rotate_left; focus (first | omega | (simp <;> omega)))) | (focus (with_reducible refine Blk.below ?_ hb11 ?_; rotate_left; focus (first | omega | (simp <;> omega)))) | (focus (with_reducible refine Blk.below ?_ hb12 ?_; rotate_left; focus (first | omega | (simp <;> omega)))) | (focus (with_reducible refine Blk.below ?_ hb13 ?_; rotate_left; focus (first | omega | (simp <;> omega)))) | (focus (with_reducible refine Blk.below ?_ hb14 ?_; rotate_left; focus (first | omega | (simp <;> omega)))) | (focus (with_reducible refine Blk.below ?_ hb15 ?_; rotate_left; focus (first | omega | (simp <;> omega)))) | fail))), hide (by (repeat (first | with_reducible assumption | (focus (with_reducible refine Blk.new ?_; focus (simp <;> fail))) | with_reducible refine Blk.set3 (a := .slice none 0 0) (b := .slice none 0 0) (c := .int .i64 0) ?_ | with_reducible refine Blk.alloc ?_ _ | with_reducible refine Blk.drew ?_ | (focus (with_reducible refine Blk.far ?_ ?_ _; rotate_left; focus (first | omega | (simp <;> omega)))) | (focus (with_reducible refine Blk.below ?_ hb1 ?_; rotate_left; focus (first | omega | (simp <;> omega)))) | (focus (with_reducible refine Blk.below ?_ hb2 ?_; rotate_left; focus (first | omega | (simp <;> omega)))) | (focus (with_reducible refine Blk.below ?_ hb3 ?_; rotate_left; focus (first | omega | (simp <;> omega)))) | (focus (with_reducible refine Blk.below ?_ hb4 ?_; rotate_left; focus (first | omega | (simp <;> omega)))) | (focus (with_reducible refine Blk.below ?_ hb5 ?_; rotate_left; focus (first | omega | (simp <;> omega)))) | (focus (with_reducible refine Blk.below ?_ hb6 ?_; rotate_left; focus (first | omega | (simp <;> omega)))) | (focus (with_reducible refine Blk.below ?_ hb7 ?_; rotate_left; focus (first | omega | (simp <;> omega)))) | (focus (with_reducible refine Blk.below ?_ hb8 ?_; rotate_left; focus (first | omega | (simp <;> omega)))) | (focus (with_reducible refine Blk.below ?_ hb9 ?_; rotate_left; focus (first | omega | (simp <;> omega)))) | (focus (with_reducible refine Blk.below ?_ hb10 ?_; rotate_left; focus (first | omega | (simp <;> omega)))) | (focus (with_reducible refine Blk.below ?_ hb11 ?_; rotate_left; focus (first | omega | (simp <;> omega)))) | (focus (with_reducible refine Blk.below ?_ hb12 ?_; rotate_left; focus (first | omega | (simp <;> omega)))) | (focus (with_reducible refine Blk.below ?_ hb13 ?_; rotate_left; focus (first | omega | (simp <;> omega)))) | (focus (with_reducible refine Blk.below ?_ hb14 ?_; rotate_left; focus (first | omega | (simp <;> omega)))) | (focus (with_reducible refine Blk.below ?_ hb15 ?_; rotate_left; focus (first | omega | (simp <;> omega)))) | fail)))⟩
              rw [hap, unhide hcl]
              exact World.ownsRow.alloc (unhide o3) _
            case measure => simp [intOf]; omega
        · obtain rfl : k = 2 := by omega
          go_upto_region 8 with fail
          have e0 := (unhide h1).cell 0
          have e1 := (unhide h1).cell 1
          simp at e0 e1
          have y6 : w.heap.size + 1 + 1 < wr.heap.size := (unhide h3).lt
          have hal := unhide hacc 2
          generalize hcl : (cutAcc p ⟨fa, fl⟩ ⟨sa, sl⟩ 2).length = len at *
          have u1 : len + (n - (m + 1)) ≤ maxLen := by have := unhide hL; have := unhide hm; simp only [maxLen]; omega
          have u2 : (len + (n - (m + 1))) * 16 ≤ 140737488355328 := by have := unhide hL; have := unhide hm; omega
          have hql : q.length = n - (m + 1) := by have := unhide hlen; omega
          have u3 : (q.flatMap exv).length = (n - (m + 1)) * 2 := by rw [flat_len, hql]
          have u4 := flat_one q
          have hdr : (x.free.drop (m + 1)).take (n - (m + 1)) = q := by
            rw [unhide hx, ← unhide hm, List.drop_append, List.drop_of_length_le (by omega), List.nil_append, show p.length + 1 - p.length = 1 by omega, List.drop_succ_cons, List.drop_zero, unhide hm, ← hql, List.take_length]
          have hq := (unhide hb).sub (m + 1) n (by omega) (by rw [unhide hn]; exact Nat.le_refl _) (c - (m + 1)) (by omega) (by omega)
          rw [hdr] at hq
          have u5 : ∀ A, (c ≠ m + 1 → A = some ⟨B, off + (m + 1) * 2, none⟩) → SrcOk wr.drew A (n - (m + 1)) (q.flatMap exv) := by
            intro A hA
            by_cases hcm : c = m + 1
            · intro h0; omega
            · rw [hA hcm]
              exact SrcOk.below hq.src.2 (Below.drew (unhide b3))
          have v1 : IntKind.i64.wrap ((m : Int) + 1) = (m : Int) + 1 := IntWalk.i64_in _ (by omega)
          have v2 : ((m : Int) + 1).toNat = m + 1 := by omega
          have v3 : (m : Int) + 1 ≤ (n : Int) := by omega
          have v4 : (0 : Int) ≤ (m : Int) + 1 := by omega
          replace u1 := hide u1; replace u2 := hide u2; replace u3 := hide u3; replace u4 := hide u4; replace u5 := hide u5; replace hq := hide hq; replace hdr := hide hdr; replace hql := hide hql; replace hal := hide hal; replace hcl := hide hcl
          by_cases hcm : c = m + 1
          · subst hcm
            have hq0 : q = [] := List.eq_nil_of_length_eq_zero (by have := unhide hql; omega)
            replace hq0 := hide hq0
            go_region_held3 (fun W => W.cell? ⟨w.heap.size, 0, none⟩ = some (.int .i64 size) ∧ W.cell? ⟨w.heap.size, 1, none⟩ = some (.slice (some ⟨B, off, none⟩) n (m + 1))) (first | exact ⟨by assumption, by assumption⟩ | exact ⟨by go_simp, by go_simp⟩)
              (first
                | (refine step_app rfl (.tmp 40) (.tmp 45) 22 rfl w.heap.size 26 i0 _ 2 16 Try.underlying22 hi0 hz0 hz1 hz2 rfl (Nat.succ_pos _) _ len _ rfl (own_drew (unhide o3)) (some ⟨B, off, none⟩) 0 0 [] rfl rfl (fun h => absurd h (Nat.lt_irrefl 0)) (fun u hu => by cases hu) (by have := unhide u1; omega) (by have := unhide u2; omega) (by simp <;> omega) ?_
                   intro v' w1 hown hg
                   obtain ⟨A3, c3, rfl⟩ := ownsRow_form hown
                   have b3' := unhide b3
                   have H1 : Blk w1 w.heap.size 24 #[.int .i64 size, .slice (some ⟨B, off, none⟩) n (m + 1)] := Blk.grew (Blk.drew (unhide h1)) (own_drew (unhide o3)) (by decide) hg
                   have H3 : Blk w1 (w.heap.size + 1 + 1) 24 #[.int .i64 0, .slice none 0 0] := Blk.grew (Blk.drew (unhide h3)) (own_drew (unhide o3)) (by decide) hg
                   have B4 : Below w.heap.size w w1 := bl_grown (Below.drew b3') hg (own_base (own_drew (unhide o3)))
                   have r0 := H1.cell 0
                   have r1 := H1.cell 1
                   have r2 := H3.cell 0
                   have r3 := H3.cell 1
                   have f0 := H3.frozen 0
                   have f1 := H3.frozen 1
                   simp at r0 r1 r2 r3))
            go_wp2_with fail
            have HL : (cutAcc p ⟨fa, fl⟩ ⟨sa, sl⟩ 2).flatMap exv = (p ++ pieces ⟨fa, fl⟩ ⟨sa, sl⟩).flatMap exv := rfl
            have HN : (p ++ (pieces ⟨fa, fl⟩ ⟨sa, sl⟩ ++ q)).length = len + 0 := by
              rw [← List.append_assoc, List.length_append, show (p ++ pieces ⟨fa, fl⟩ ⟨sa, sl⟩).length = len from unhide hcl]
              rw [unhide hq0]; rfl
            refine ret_xs rfl (w.heap.size + 1 + 1) (.int .i64 size) (.slice A3 (len + 0) c3) rfl (Blk.set2 H3) rfl ⟨_, rfl, Exs.of_own (e := 26) ?_, by (repeat (first | with_reducible exact Below.refl _ _ | with_reducible assumption | with_reducible refine Below.drew ?_ | with_reducible refine bl_alloc ?_ _ | with_reducible refine bl_call ?_ (by assumption) | (focus (with_reducible refine Below.setCell ?_ ?_ _; rotate_left; focus (first | omega | (simp <;> omega)))) | fail))⟩
            rw [HN]
            refine own_far (own_far ?_ H3 (by decide) 0 _) (H3.set 0 _) (by decide) 1 _
            have HO := hown
            rw [HL, List.append_nil, ← List.append_nil (pieces ⟨fa, fl⟩ ⟨sa, sl⟩), ← unhide hq0] at HO
            exact HO
          · have v5 : c - (m + 1) ≠ 0 := by omega
            go_region_held3 (fun W => W.cell? ⟨w.heap.size, 0, none⟩ = some (.int .i64 size) ∧ W.cell? ⟨w.heap.size, 1, none⟩ = some (.slice (some ⟨B, off, none⟩) n c)) (first | exact ⟨by assumption, by assumption⟩ | exact ⟨by go_simp, by go_simp⟩)
              (first
                | (refine step_app rfl (.tmp 40) (.tmp 45) 22 rfl w.heap.size 26 i0 _ 2 16 Try.underlying22 hi0 hz0 hz1 hz2 rfl (Nat.succ_pos _) _ len _ rfl (own_drew (unhide o3)) (some ⟨B, off + (m + 1) * 2, none⟩) (n - (m + 1)) (c - (m + 1)) (q.flatMap exv) rfl (unhide u3) (unhide u5 _ (fun _ => rfl)) (unhide u4) (unhide u1) (unhide u2) (by simp <;> omega) ?_
                   intro v' w1 hown hg
                   obtain ⟨A3, c3, rfl⟩ := ownsRow_form hown
                   have b3' := unhide b3
                   have H1 : Blk w1 w.heap.size 24 #[.int .i64 size, .slice (some ⟨B, off, none⟩) n c] := Blk.grew (Blk.drew (unhide h1)) (own_drew (unhide o3)) (by decide) hg
                   have H3 : Blk w1 (w.heap.size + 1 + 1) 24 #[.int .i64 0, .slice none 0 0] := Blk.grew (Blk.drew (unhide h3)) (own_drew (unhide o3)) (by decide) hg
                   have B4 : Below w.heap.size w w1 := bl_grown (Below.drew b3') hg (own_base (own_drew (unhide o3)))
                   have r0 := H1.cell 0
                   have r1 := H1.cell 1
                   have r2 := H3.cell 0
                   have r3 := H3.cell 1
                   have f0 := H3.frozen 0
                   have f1 := H3.frozen 1
                   simp at r0 r1 r2 r3))
            go_wp2_with fail
            have HL : (cutAcc p ⟨fa, fl⟩ ⟨sa, sl⟩ 2).flatMap exv = (p ++ pieces ⟨fa, fl⟩ ⟨sa, sl⟩).flatMap exv := rfl
            have HN : (p ++ (pieces ⟨fa, fl⟩ ⟨sa, sl⟩ ++ q)).length = len + (n - (m + 1)) := by
              rw [← List.append_assoc, List.length_append, show (p ++ pieces ⟨fa, fl⟩ ⟨sa, sl⟩).length = len from unhide hcl]
              rw [unhide hql]
            refine ret_xs rfl (w.heap.size + 1 + 1) (.int .i64 size) (.slice A3 (len + (n - (m + 1))) c3) rfl (Blk.set2 H3) rfl ⟨_, rfl, Exs.of_own (e := 26) ?_, by (repeat (first | with_reducible exact Below.refl _ _ | with_reducible assumption | with_reducible refine Below.drew ?_ | with_reducible refine bl_alloc ?_ _ | with_reducible refine bl_call ?_ (by assumption) | (focus (with_reducible refine Below.setCell ?_ ?_ _; rotate_left; focus (first | omega | (simp <;> omega)))) | fail))⟩
            rw [HN]
            refine own_far (own_far ?_ H3 (by decide) 0 _) (H3.set 0 _) (by decide) 1 _
            have HO := hown
            rw [HL, ← List.flatMap_append, List.append_assoc] at HO
            exact HO
end Go.Proofs.Yteokimebfbnlkaa
