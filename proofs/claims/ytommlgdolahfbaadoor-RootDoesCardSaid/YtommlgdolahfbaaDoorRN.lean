import Derived.Test.YtommlgdolahfbaaDoorRK
import Derived.Test.YtommlgdolahfbaaDoorRG
namespace Go.Proofs.YtommlgdolahfbaaDoor
set_option maxRecDepth 100000
open Go.RowKit

/-- An append as one step of a region that draws its order. -/
theorem step_app {P : Program} {ops : Array Oper} {o : Oper} {a : Act} {w : World} {K : Act → World → Prop} {Q : Exit → Act → World → Prop} {E : Prop} (hgd : o.guard = none) (s x : Operand) (t : TypeId)
    (ho : o.op = .call { callee := .builtin .append, args := #[s, x], argTypes := #[t, t] })
    (base : Nat) (e : TypeId) (i : TypeInfo) (z : Value) (size bytes : Nat) (ht : P.underlying t = some (.slice e)) (hi : P.info? e = some i) (hz : i.zero = some z)
    (hsize : i.size = size) (hby : i.bytes = bytes) (hzs : z.cells.size = size) (hsz : 0 < size)
    (v : Value) (n : Nat) (xs : List Value) (hs : a.eval s = v) (hown : w.ownsRow base e size v n xs)
    (A : Option Addr) (m c : Nat) (news : List Value) (hx : a.eval x = .slice A m c) (hl : news.length = m * size) (hr : SrcOk w A m news) (h1 : ∀ u ∈ news, u.oneCell' = true)
    (h63 : n + m ≤ maxLen) (hbytes : (n + m) * bytes ≤ 140737488355328) (hbase : base ≤ w.heap.size)
    (h : ∀ v' w', w'.ownsRow base e size v' (n + m) (xs ++ news) → w.grownBy w' v.ownBlock → K (a.put o.dst v') w') :
    if Region.wanted o (yielded ops a.tmps) = true then Oper.wp P o a w K Q else E := by
  have hw : Region.wanted o (yielded ops a.tmps) = true := by simp [Region.wanted, hgd]
  rw [if_pos hw]
  exact wp_app w s x t ho base e i z size bytes ht hi hz hsize hby hzs hsz v n xs hs hown A m c news hx hl hr h1 h63 hbytes hbase h
theorem own_drew {w : World} {base : Nat} {e : TypeId} {size : Nat} {v : Value} {n : Nat} {xs : List Value} (h : w.ownsRow base e size v n xs) : w.drew.ownsRow base e size v n xs := h
theorem sz_alloc {w : World} {b : Nat} (h : b ≤ w.heap.size) (o : Obj) : b ≤ (w.alloc o).heap.size := by simp; omega
theorem list_src (w : World) (l : List UInt8) : SrcOk (w.alloc (.cells (l.map u8v).toArray 5)) (some ⟨w.heap.size, 0, none⟩) l.length (l.map u8v) := fun _ => by
  refine ⟨_, rfl, fun j u hu => ?_⟩
  have e : (⟨w.heap.size, 0, none⟩ : Addr).add j = ⟨w.heap.size, j, none⟩ := by
    unfold Addr.add
    split
    · rename_i h; subst h; rfl
    · simp
  rw [e, (Blk.new (w := w) (t := 5) (cs := (l.map u8v).toArray) rfl).cell]
  simpa using hu
/-- All octets that are told. -/
def lineN (g a l n s x : Nat) : List UInt8 := leO g 6 ++ leO a 2 ++ leO l 2 ++ leO n 3 ++ leO s 4 ++ leO x 6 ++ [0]
theorem lineN_len (g a l n s x : Nat) : (lineN g a l n s x).length = 24 := by simp [lineN, leO_len]
theorem leO_get (n k : Nat) {j : Nat} (h : j < k) : (leO n k)[j]? = some (oct n j) := by simp [leO, h]
theorem line_get (g : Nat) (a l n : Nat) (s x : Nat) {i : Nat} (h : i < 24) : (lineN g a l n s x)[i]? = some (told ⟨g, (a : Nat), (l : Nat), (n : Nat), s, x⟩ i) := by
  unfold lineN told
  simp only [Int.toNat_natCast]
  by_cases h1 : i < 6
  · rw [if_pos h1, List.getElem?_append_left (by simp [leO_len]; omega), List.getElem?_append_left (by simp [leO_len]; omega), List.getElem?_append_left (by simp [leO_len]; omega), List.getElem?_append_left (by simp [leO_len]; omega), List.getElem?_append_left (by simp [leO_len]; omega), List.getElem?_append_left (by simp [leO_len]; omega), leO_get _ _ (by omega)]
  rw [if_neg h1]
  by_cases h2 : i < 8
  · rw [if_pos h2, List.getElem?_append_left (by simp [leO_len]; omega), List.getElem?_append_left (by simp [leO_len]; omega), List.getElem?_append_left (by simp [leO_len]; omega), List.getElem?_append_left (by simp [leO_len]; omega), List.getElem?_append_left (by simp [leO_len]; omega), List.getElem?_append_right (by simp [leO_len]; omega), leO_len, leO_get _ _ (by omega)]
  rw [if_neg h2]
  by_cases h3 : i < 10
  · rw [if_pos h3, List.getElem?_append_left (by simp [leO_len]; omega), List.getElem?_append_left (by simp [leO_len]; omega), List.getElem?_append_left (by simp [leO_len]; omega), List.getElem?_append_left (by simp [leO_len]; omega), List.getElem?_append_right (by simp [leO_len]; omega), leO_get _ _ (by simp [leO_len]; omega)]
    simp [leO_len]
  rw [if_neg h3]
  by_cases h4 : i < 13
  · rw [if_pos h4, List.getElem?_append_left (by simp [leO_len]; omega), List.getElem?_append_left (by simp [leO_len]; omega), List.getElem?_append_left (by simp [leO_len]; omega), List.getElem?_append_right (by simp [leO_len]; omega), leO_get _ _ (by simp [leO_len]; omega)]
    simp [leO_len]
  rw [if_neg h4]
  by_cases h5 : i < 17
  · rw [if_pos h5, List.getElem?_append_left (by simp [leO_len]; omega), List.getElem?_append_left (by simp [leO_len]; omega), List.getElem?_append_right (by simp [leO_len]; omega), leO_get _ _ (by simp [leO_len]; omega)]
    simp [leO_len]
  rw [if_neg h5]
  by_cases h6 : i < 23
  · rw [if_pos h6, List.getElem?_append_left (by simp [leO_len]; omega), List.getElem?_append_right (by simp [leO_len]; omega), leO_get _ _ (by simp [leO_len]; omega)]
    simp [leO_len]
  rw [if_neg h6]
  obtain rfl : i = 23 := by omega
  rw [List.getElem?_append_right (by simp [leO_len])]
  simp [leO_len]
/-- The octets of the first k groups. -/
def grp (r : Rt) (k : Nat) : List UInt8 := (octs r).take (4 * k)
theorem grp_len (r : Rt) {k : Nat} (h : k ≤ 8) : (grp r k).length = 4 * k := by rw [grp, List.length_take, octs_len]; omega
theorem grp_succ (r : Rt) {k : Nat} (h : k < 8) : grp r (k + 1) = grp r k ++ [oct r.gen 0, told r (3 * k), told r (3 * k + 1), told r (3 * k + 2)] := by
  unfold grp
  apply List.ext_getElem?
  intro i
  rw [List.getElem?_take]
  by_cases h1 : i < 4 * k
  · rw [if_pos (by omega), List.getElem?_append_left (by rw [List.length_take, octs_len]; omega), List.getElem?_take, if_pos h1]
  · rw [List.getElem?_append_right (by rw [List.length_take, octs_len]; omega), List.length_take, octs_len, Nat.min_eq_left (by omega)]
    by_cases h2 : i < 4 * (k + 1)
    · rw [if_pos h2, octs_get r (by omega)]
      unfold octP
      rcases (show i = 4 * k ∨ i = 4 * k + 1 ∨ i = 4 * k + 2 ∨ i = 4 * k + 3 by omega) with e | e | e | e
      · subst e; rw [if_pos (by omega), Nat.sub_self]; rfl
      · subst e; rw [if_neg (by omega), show (4 * k + 1) / 4 * 3 + (4 * k + 1) % 4 - 1 = 3 * k by omega, show 4 * k + 1 - 4 * k = 1 by omega]; rfl
      · subst e; rw [if_neg (by omega), show (4 * k + 2) / 4 * 3 + (4 * k + 2) % 4 - 1 = 3 * k + 1 by omega, show 4 * k + 2 - 4 * k = 2 by omega]; rfl
      · subst e; rw [if_neg (by omega), show (4 * k + 3) / 4 * 3 + (4 * k + 3) % 4 - 1 = 3 * k + 2 by omega, show 4 * k + 3 - 4 * k = 3 by omega]; rfl
    · rw [if_neg h2, List.getElem?_eq_none (by simp; omega)]
theorem grp_full (r : Rt) : grp r 8 = octs r := by rw [grp, List.take_of_length_le (by rw [octs_len]; omega)]

/-- What the walk of the reference's Octets carries: the box, and the row. -/
structure Rf (w : World) (r : Rt) (wr : World) (v : Value) (n : Nat) (l : List UInt8) : Prop where
  bl : Below (w.heap.size + 1) (w.alloc (.cells #[.int .u64 (r.gen : Nat), .int .i64 r.at_, .int .i64 r.len, .int .i64 r.long, .int .u32 (r.sum : Nat), .int .u64 (r.next : Nat)] 27)) wr
  own : wr.ownsRow (w.heap.size + 1) 5 1 v n (l.map u8v)
section
variable {w wr w' : World} {r : Rt} {v : Value} {n : Nat} {l : List UInt8}
theorem Rf.size (h : Rf w r wr v n l) : w.heap.size + 1 ≤ wr.heap.size := by have := h.bl.size; simpa using this
theorem Rf.box (h : Rf w r wr v n l) : Blk wr w.heap.size 27 #[.int .u64 (r.gen : Nat), .int .i64 r.at_, .int .i64 r.len, .int .i64 r.long, .int .u32 (r.sum : Nat), .int .u64 (r.next : Nat)] := (Blk.new (w := w) rfl).below h.bl (by omega)
theorem Rf.below (h : Rf w r wr v n l) : Below w.heap.size w wr := (bl_alloc (Below.refl _ _) _).trans (h.bl.mono (by omega))
theorem Rf.call (h : Rf w r wr v n l) (hb : Below wr.heap.size wr w') : Rf w r w' v n l := ⟨h.bl.trans (hb.mono h.size), own_below h.own hb (Nat.le_refl _)⟩
theorem Rf.app (h : Rf w r wr v n l) {v' : Value} {m : Nat} {l' : List UInt8} (ho : w'.ownsRow (w.heap.size + 1) 5 1 v' m (l'.map u8v)) (hg : wr.grownBy w' v.ownBlock) : Rf w r w' v' m l' :=
  ⟨h.bl.trans (bl_app0 h.size h.own hg), ho⟩
end
set_option maxHeartbeats 8000000 in
theorem refLine (g a l n s x : Nat) (h : rOk ⟨g, (a : Nat), (l : Nat), (n : Nat), s, x⟩ = true) (hT : OkT ⟨g, (a : Nat), (l : Nat), (n : Nat), s, x⟩) (w : World) :
    Calls Tryd.prog 12 #[.agg #[.int .u64 (g : Nat), .int .i64 (a : Nat), .int .i64 (l : Nat), .int .i64 (n : Nat), .int .u32 (s : Nat), .int .u64 (x : Nat)]] w fun e w' => ∃ A c, e = .returned (.tuple #[.slice A 32 c, .int .i64 0]) ∧ Bs w.heap.size w'.heap.size w' (.slice A 32 c) (octs ⟨g, (a : Nat), (l : Nat), (n : Nat), s, x⟩) ∧ Below w.heap.size w w' := by
  obtain ⟨i0, hi0, hz0, hz1, hz2⟩ := info_parts info5
  obtain ⟨r, hr⟩ : ∃ r : Rt, r = ⟨g, (a : Nat), (l : Nat), (n : Nat), s, x⟩ := ⟨_, rfl⟩
  have hC := fun W => refCheck_any ⟨g, (a : Nat), (l : Nat), (n : Nat), s, x⟩ W
  rw [h, show badE true = 0 from rfl] at hC
  obtain ⟨a1, a2, a3, a4, a5, a6, a7, a8⟩ := rOk_iff.1 h
  obtain ⟨t1, t2, t3, _⟩ := hT
  simp only [] at a1 a2 a3 a4 a5 a6 a7 a8 t1 t2 t3
  have hPg := fun W => put_any g 6 (by omega) (by omega) W
  have hPa := fun W => put_any a 2 (by omega) (by omega) W
  have hPl := fun W => put_any l 2 (by omega) (by omega) W
  have hPn := fun W => put_any n 3 (by omega) (by omega) W
  have hPs := fun W => put_any s 4 (by omega) (by omega) W
  have hPx := fun W => put_any x 6 (by omega) (by omega) W
  have ea : IntKind.u64.wrap (a : Int) = (a : Int) := by rw [IntKind.wrap_u64]; omega
  have el : IntKind.u64.wrap (l : Int) = (l : Int) := by rw [IntKind.wrap_u64]; omega
  have en : IntKind.u64.wrap (n : Int) = (n : Int) := by rw [IntKind.wrap_u64]; omega
  have es : IntKind.u64.wrap (s : Int) = (s : Int) := by rw [IntKind.wrap_u64]; omega
  have eo : IntKind.u8.wrap (((g : Nat) : Int).tmod 256) = ((oct g 0).toNat : Int) := by rw [oct_nat, IntKind.wrap_u8, Int.tmod_eq_emod_of_nonneg (by omega)]; omega
  have hline : ∀ i, i < 24 → (lineN g a l n s x)[i]? = some (told r i) := fun i hi => by rw [hr]; exact line_get g a l n s x hi
  have hll := lineN_len g a l n s x
  have hgs := fun k (hk : k < 8) => grp_succ r hk
  have hgf := grp_full r
  have hrg : r.gen = g := by rw [hr]
  rw [hrg] at hgs
  rw [← hr] at ⊢
  have hbox : (#[.int .u64 (r.gen : Nat), .int .i64 r.at_, .int .i64 r.len, .int .i64 r.long, .int .u32 (r.sum : Nat), .int .u64 (r.next : Nat)] : Array Value) = #[.int .u64 (g : Nat), .int .i64 (a : Nat), .int .i64 (l : Nat), .int .i64 (n : Nat), .int .u32 (s : Nat), .int .u64 (x : Nat)] := by rw [hr]
  clear h a1 a2 a3 a4 a5 a6 a7 a8 t1 t2 t3
  replace hC := hide hC; replace hr := hide hr; replace hline := hide hline; replace hll := hide hll; replace hgs := hide hgs; replace hgf := hide hgf; replace hrg := hide hrg; replace hbox := hide hbox; replace eo := hide eo
  replace hPg := hide hPg
  replace hPa := hide hPa
  replace hPl := hide hPl
  replace hPn := hide hPn
  replace hPs := hide hPs
  replace hPx := hide hPx
  have tk0 : True := trivial
  have tk1 : True := trivial
  have tk2 : True := trivial
  have tk3 : True := trivial
  have tk4 : True := trivial
  have tk5 : True := trivial
  go_enter Tryd.func12, Tryd.ntmps12
  go_upto_region 10 with (first
    | (go_at_call 22; refine (unhide hC _).mono ?_; rintro e w0 ⟨rfl, b0⟩
       have R0 : Rf w r w0 (.slice none 0 0) 0 [] := ⟨by have b9 := b0; rw [← unhide hbox] at b9; simpa using b9, World.ownsRow_nil _ _ _ _⟩
       obtain ⟨c0, c1, c2, c3, c4, c5⟩ := zk6 (show Blk w0 w.heap.size 27 #[.int .u64 (g : Nat), .int .i64 (a : Nat), .int .i64 (l : Nat), .int .i64 (n : Nat), .int .u32 (s : Nat), .int .u64 (x : Nat)] by rw [← unhide hbox]; exact R0.box)
       replace R0 := hide R0
       clear b0)
    | (have _t := tk0; clear tk0 _t; go_at_call 30; refine (unhide hPg _).mono ?_; rintro e w1 ⟨A1, d1, rfl, o1, b1⟩
       have R1 : Rf w r w1 (.slice A1 6 d1) 6 (leO g 6) := ⟨((unhide R0).call b1).bl, ownsRow_mono o1 (unhide R0).size⟩
       clear c0 c1 c2 c3 c4 c5
       obtain ⟨c0, c1, c2, c3, c4, c5⟩ := zk6 (show Blk w1 w.heap.size 27 #[.int .u64 (g : Nat), .int .i64 (a : Nat), .int .i64 (l : Nat), .int .i64 (n : Nat), .int .u32 (s : Nat), .int .u64 (x : Nat)] by rw [← unhide hbox]; exact R1.box)
       replace R1 := hide R1
       clear b1 R0)
    | (have _t := tk1; clear tk1 _t; go_at_call 30; refine (unhide hPa _).mono ?_; rintro e wp1 ⟨P1, p1, rfl, o1, b1⟩
       have S1 := hide ((unhide R1).call b1)
       have O1 := hide o1
       have tq1 : True := trivial
       clear b1 R1 o1 c0 c1 c2 c3 c4 c5)
    | (have _t := tq1; clear tq1 _t
       have hsrc := (Bs.src (Bs.of_own (l := leO a 2) (by have := unhide O1; rw [leO_len]; exact this)) : _ = _ ∧ _).2
       have hlen : ((leO a 2).map u8v).length = 2 * 1 := by rw [List.length_map, leO_len]
       at_builtin
       refine wpList_app _ rfl (.tmp 13) (.tmp 18) 28 rfl (w.heap.size + 1) 5 i0 _ 1 1 Tryd.underlying28 hi0 hz0 hz1 hz2 rfl (Nat.succ_pos _) _ 6 ((leO g 6).map u8v) rfl (unhide S1).own P1 2 p1 ((leO a 2).map u8v) rfl hlen hsrc (u8s_one _) (by simp [maxLen]) (by omega) (unhide S1).size ?_
       intro v4 wa1 o4 g4
       rw [← List.map_append] at o4
       obtain ⟨A2, d2, rfl⟩ := ownsRow_form o4
       have R2 : Rf w r wa1 (.slice A2 8 d2) 8 (leO g 6 ++ leO a 2) := (unhide S1).app o4 g4
       obtain ⟨c0, c1, c2, c3, c4, c5⟩ := zk6 (show Blk wa1 w.heap.size 27 #[.int .u64 (g : Nat), .int .i64 (a : Nat), .int .i64 (l : Nat), .int .i64 (n : Nat), .int .u32 (s : Nat), .int .u64 (x : Nat)] by rw [← unhide hbox]; exact R2.box)
       replace R2 := hide R2
       have tn2 : True := trivial
       clear o4 g4 S1 O1 hsrc hlen)
    | (have _t := tk2; clear tk2 _t; go_at_call 30; refine (unhide hPl _).mono ?_; rintro e wp2 ⟨P2, p2, rfl, o2, b2⟩
       have S2 := hide ((unhide R2).call b2)
       have O2 := hide o2
       have tq2 : True := trivial
       clear b2 R2 o2 c0 c1 c2 c3 c4 c5)
    | (have _t := tq2; clear tq2 _t
       have hsrc := (Bs.src (Bs.of_own (l := leO l 2) (by have := unhide O2; rw [leO_len]; exact this)) : _ = _ ∧ _).2
       have hlen : ((leO l 2).map u8v).length = 2 * 1 := by rw [List.length_map, leO_len]
       at_builtin
       refine wpList_app _ rfl (.tmp 20) (.tmp 25) 28 rfl (w.heap.size + 1) 5 i0 _ 1 1 Tryd.underlying28 hi0 hz0 hz1 hz2 rfl (Nat.succ_pos _) _ 8 ((leO g 6 ++ leO a 2).map u8v) rfl (unhide S2).own P2 2 p2 ((leO l 2).map u8v) rfl hlen hsrc (u8s_one _) (by simp [maxLen]) (by omega) (unhide S2).size ?_
       intro v4 wa2 o4 g4
       rw [← List.map_append] at o4
       obtain ⟨A3, d3, rfl⟩ := ownsRow_form o4
       have R3 : Rf w r wa2 (.slice A3 10 d3) 10 (leO g 6 ++ leO a 2 ++ leO l 2) := (unhide S2).app o4 g4
       obtain ⟨c0, c1, c2, c3, c4, c5⟩ := zk6 (show Blk wa2 w.heap.size 27 #[.int .u64 (g : Nat), .int .i64 (a : Nat), .int .i64 (l : Nat), .int .i64 (n : Nat), .int .u32 (s : Nat), .int .u64 (x : Nat)] by rw [← unhide hbox]; exact R3.box)
       replace R3 := hide R3
       have tn3 : True := trivial
       clear o4 g4 S2 O2 hsrc hlen)
    | (have _t := tk3; clear tk3 _t; go_at_call 30; refine (unhide hPn _).mono ?_; rintro e wp3 ⟨P3, p3, rfl, o3, b3⟩
       have S3 := hide ((unhide R3).call b3)
       have O3 := hide o3
       have tq3 : True := trivial
       clear b3 R3 o3 c0 c1 c2 c3 c4 c5)
    | (have _t := tq3; clear tq3 _t
       have hsrc := (Bs.src (Bs.of_own (l := leO n 3) (by have := unhide O3; rw [leO_len]; exact this)) : _ = _ ∧ _).2
       have hlen : ((leO n 3).map u8v).length = 3 * 1 := by rw [List.length_map, leO_len]
       at_builtin
       refine wpList_app _ rfl (.tmp 27) (.tmp 31) 28 rfl (w.heap.size + 1) 5 i0 _ 1 1 Tryd.underlying28 hi0 hz0 hz1 hz2 rfl (Nat.succ_pos _) _ 10 ((leO g 6 ++ leO a 2 ++ leO l 2).map u8v) rfl (unhide S3).own P3 3 p3 ((leO n 3).map u8v) rfl hlen hsrc (u8s_one _) (by simp [maxLen]) (by omega) (unhide S3).size ?_
       intro v4 wa3 o4 g4
       rw [← List.map_append] at o4
       obtain ⟨A4, d4, rfl⟩ := ownsRow_form o4
       have R4 : Rf w r wa3 (.slice A4 13 d4) 13 (leO g 6 ++ leO a 2 ++ leO l 2 ++ leO n 3) := (unhide S3).app o4 g4
       obtain ⟨c0, c1, c2, c3, c4, c5⟩ := zk6 (show Blk wa3 w.heap.size 27 #[.int .u64 (g : Nat), .int .i64 (a : Nat), .int .i64 (l : Nat), .int .i64 (n : Nat), .int .u32 (s : Nat), .int .u64 (x : Nat)] by rw [← unhide hbox]; exact R4.box)
       replace R4 := hide R4
       have tn4 : True := trivial
       clear o4 g4 S3 O3 hsrc hlen)
    | (have _t := tk4; clear tk4 _t; go_at_call 30; refine (unhide hPs _).mono ?_; rintro e wp4 ⟨P4, p4, rfl, o4, b4⟩
       have S4 := hide ((unhide R4).call b4)
       have O4 := hide o4
       have tq4 : True := trivial
       clear b4 R4 o4 c0 c1 c2 c3 c4 c5)
    | (have _t := tq4; clear tq4 _t
       have hsrc := (Bs.src (Bs.of_own (l := leO s 4) (by have := unhide O4; rw [leO_len]; exact this)) : _ = _ ∧ _).2
       have hlen : ((leO s 4).map u8v).length = 4 * 1 := by rw [List.length_map, leO_len]
       at_builtin
       refine wpList_app _ rfl (.tmp 33) (.tmp 37) 28 rfl (w.heap.size + 1) 5 i0 _ 1 1 Tryd.underlying28 hi0 hz0 hz1 hz2 rfl (Nat.succ_pos _) _ 13 ((leO g 6 ++ leO a 2 ++ leO l 2 ++ leO n 3).map u8v) rfl (unhide S4).own P4 4 p4 ((leO s 4).map u8v) rfl hlen hsrc (u8s_one _) (by simp [maxLen]) (by omega) (unhide S4).size ?_
       intro v4 wa4 o4 g4
       rw [← List.map_append] at o4
       obtain ⟨A5, d5, rfl⟩ := ownsRow_form o4
       have R5 : Rf w r wa4 (.slice A5 17 d5) 17 (leO g 6 ++ leO a 2 ++ leO l 2 ++ leO n 3 ++ leO s 4) := (unhide S4).app o4 g4
       obtain ⟨c0, c1, c2, c3, c4, c5⟩ := zk6 (show Blk wa4 w.heap.size 27 #[.int .u64 (g : Nat), .int .i64 (a : Nat), .int .i64 (l : Nat), .int .i64 (n : Nat), .int .u32 (s : Nat), .int .u64 (x : Nat)] by rw [← unhide hbox]; exact R5.box)
       replace R5 := hide R5
       have tn5 : True := trivial
       clear o4 g4 S4 O4 hsrc hlen)
    | (have _t := tk5; clear tk5 _t; go_at_call 30; refine (unhide hPx _).mono ?_; rintro e wp5 ⟨P5, p5, rfl, o5, b5⟩
       have S5 := hide ((unhide R5).call b5)
       have O5 := hide o5
       have tq5 : True := trivial
       clear b5 R5 o5 c0 c1 c2 c3 c4 c5)
    | (have _t := tq5; clear tq5 _t
       have hsrc := (Bs.src (Bs.of_own (l := leO x 6) (by have := unhide O5; rw [leO_len]; exact this)) : _ = _ ∧ _).2
       have hlen : ((leO x 6).map u8v).length = 6 * 1 := by rw [List.length_map, leO_len]
       at_builtin
       refine wpList_app _ rfl (.tmp 39) (.tmp 42) 28 rfl (w.heap.size + 1) 5 i0 _ 1 1 Tryd.underlying28 hi0 hz0 hz1 hz2 rfl (Nat.succ_pos _) _ 17 ((leO g 6 ++ leO a 2 ++ leO l 2 ++ leO n 3 ++ leO s 4).map u8v) rfl (unhide S5).own P5 6 p5 ((leO x 6).map u8v) rfl hlen hsrc (u8s_one _) (by simp [maxLen]) (by omega) (unhide S5).size ?_
       intro v4 wa5 o4 g4
       rw [← List.map_append] at o4
       obtain ⟨A6, d6, rfl⟩ := ownsRow_form o4
       have R6 : Rf w r wa5 (.slice A6 23 d6) 23 (leO g 6 ++ leO a 2 ++ leO l 2 ++ leO n 3 ++ leO s 4 ++ leO x 6) := (unhide S5).app o4 g4
       obtain ⟨c0, c1, c2, c3, c4, c5⟩ := zk6 (show Blk wa5 w.heap.size 27 #[.int .u64 (g : Nat), .int .i64 (a : Nat), .int .i64 (l : Nat), .int .i64 (n : Nat), .int .u32 (s : Nat), .int .u64 (x : Nat)] by rw [← unhide hbox]; exact R6.box)
       replace R6 := hide R6
       have tn6 : True := trivial
       clear o4 g4 S5 O5 hsrc hlen)
    | (have _t := tn6; clear tn6 _t
       at_builtin
       refine wpList_app _ rfl (.tmp 44) (.tmp 45) 28 rfl (w.heap.size + 1) 5 i0 _ 1 1 Tryd.underlying28 hi0 hz0 hz1 hz2 rfl (Nat.succ_pos _) _ 23 ((leO g 6 ++ leO a 2 ++ leO l 2 ++ leO n 3 ++ leO s 4 ++ leO x 6).map u8v) rfl ((unhide R6).own.alloc _) _ 1 1 (([0] : List UInt8).map u8v) rfl rfl (one_src wa5 0) (u8s_one _) (by simp [maxLen]) (by omega) (le_alloc (unhide R6).size) ?_
       intro v4 w9 o4 g4
       rw [← List.map_append] at o4
       obtain ⟨At, dt, rfl⟩ := ownsRow_form o4
       have RL : Rf w r w9 (.slice At 24 dt) 24 (lineN g a l n s x) := ⟨(unhide R6).bl.trans (bl_app (unhide R6).size (unhide R6).own g4), o4⟩
       clear o4 g4 R6 c0 c1 c2 c3 c4 c5)
    | fail)
  obtain ⟨bt, ot, rfl, hbt, hct⟩ : ∃ bt ot, At = some ⟨bt, ot, none⟩ ∧ bt < w9.heap.size ∧ ∀ i, i < 24 → w9.cell? ⟨bt, ot + i, none⟩ = some (.int .u8 ((told r i).toNat : Int)) := by
    have o9 := RL.own
    rw [show (24 : Nat) = (lineN g a l n s x).length from (unhide hll).symm] at o9
    obtain ⟨A', c', e, _, _, hc⟩ := Bs.of_own o9
    obtain ⟨b, o, e1, _, h2, h3⟩ := hc (by rw [unhide hll]; omega)
    injection e with e _ _
    subst e
    refine ⟨b, o, e1, h2, fun i hi => ?_⟩
    rw [h3 i (by rw [unhide hll]; exact hi)]
    have q := unhide hline i hi
    rw [List.getElem?_eq_getElem (by rw [unhide hll]; exact hi)] at q
    injection q with q
    rw [q]; rfl
  have hw9 : w.heap.size < w9.heap.size := Nat.lt_of_lt_of_le (Nat.lt_succ_self _) RL.size
  have hB9 := RL.below
  have K9 := RL.box
  rw [unhide hbox] at K9
  have cg := K9.cell 0
  simp at cg
  have o0 : w9.ownsRow w9.heap.size 5 1 (.slice none 0 0) (4 * 0) ((grp r 0).map u8v) := World.ownsRow_nil _ _ _ _
  have b0 : Below w9.heap.size w9 w9 := Below.refl _ _
  clear RL K9
  replace hct := hide hct; replace hB9 := hide hB9; replace o0 := hide o0; replace b0 := hide b0
  go_wp2_with fail
  go_loopw [5, 47] (fun v i wr => ∃ k : Nat, k ≤ 8 ∧ i = .int .i64 k ∧ (∃ A c, v = .slice A (4 * k) c) ∧ Hid (wr.ownsRow w9.heap.size 5 1 v (4 * k) ((grp r k).map u8v)) ∧ Hid (Below w9.heap.size w9 wr)) (fun _ i _ => 8 - (intOf i).toNat)
  case atStart => exact ⟨0, by omega, rfl, ⟨_, _, rfl⟩, o0, b0⟩
  case round =>
    obtain ⟨k, hk, rfl, ⟨A, c, rfl⟩, o, b⟩ := hrel
    clear o0 b0
    by_cases hlt : k < 8
    · have k1 : (k : Int) < 8 := by omega
      have w1 : IntKind.i64.wrap (3 * (k : Int)) = 3 * (k : Int) := IntWalk.i64_in _ (by omega)
      have w2 : IntKind.i64.wrap (3 * (k : Int) + 1) = 3 * (k : Int) + 1 := IntWalk.i64_in _ (by omega)
      have w3 : IntKind.i64.wrap (3 * (k : Int) + 2) = 3 * (k : Int) + 2 := IntWalk.i64_in _ (by omega)
      have y0 : (0 : Int) ≤ 3 * (k : Int) := by omega
      have y1 : (0 : Int) ≤ 3 * (k : Int) + 1 := by omega
      have y2 : (0 : Int) ≤ 3 * (k : Int) + 2 := by omega
      have p1 : 3 * (k : Int) < 24 := by omega
      have p2 : 3 * (k : Int) + 1 < 24 := by omega
      have p3 : 3 * (k : Int) + 2 < 24 := by omega
      have z1 : (3 * (k : Int)).toNat = 3 * k := by omega
      have z2 : (3 * (k : Int) + 1).toNat = 3 * k + 1 := by omega
      have z3 : (3 * (k : Int) + 2).toNat = 3 * k + 2 := by omega
      have p4 : 3 * k < 24 := by omega
      have p5 : 3 * k + 1 < 24 := by omega
      have p6 : 3 * k + 2 < 24 := by omega
      have c1 := ((unhide b).cell (p := ⟨bt, ot + 3 * k, none⟩) hbt).trans (unhide hct _ p4)
      have c2 := ((unhide b).cell (p := ⟨bt, ot + (3 * k + 1), none⟩) hbt).trans (unhide hct _ p5)
      have c3 := ((unhide b).cell (p := ⟨bt, ot + (3 * k + 2), none⟩) hbt).trans (unhide hct _ p6)
      have c0 : wr.cell? ⟨w.heap.size, 0, none⟩ = some (.int .u64 (g : Nat)) := ((unhide b).cell (p := ⟨w.heap.size, 0, none⟩) hw9).trans cg
      have hs := unhide hgs k hlt
      have hl4 : 4 * (k + 1) = 4 * k + 4 := by omega
      have b3 : 4 * k + 4 ≤ maxLen := by simp only [maxLen]; omega
      have b4 : (4 * k + 4) * 1 ≤ 140737488355328 := by omega
      have hsz := (unhide b).size
      obtain ⟨t0, q0⟩ : ∃ t0, t0 = told r (3 * k) := ⟨_, rfl⟩
      obtain ⟨t1, q1⟩ : ∃ t1, t1 = told r (3 * k + 1) := ⟨_, rfl⟩
      obtain ⟨t2, q2⟩ : ∃ t2, t2 = told r (3 * k + 2) := ⟨_, rfl⟩
      rw [← q0] at c1 hs
      rw [← q1] at c2 hs
      rw [← q2] at c3 hs
      clear q0 q1 q2
      have ho := u8s_one [oct g 0, t0, t1, t2]
      have hsc := fun W => list_src W [oct g 0, t0, t1, t2]
      have lb : w.heap.size < wr.heap.size := Nat.lt_of_lt_of_le hw9 hsz
      have lt : bt < wr.heap.size := Nat.lt_of_lt_of_le hbt hsz
      replace hs := hide hs; replace b3 := hide b3; replace b4 := hide b4; replace hsz := hide hsz; replace ho := hide ho; replace hsc := hide hsc; replace hl4 := hide hl4
      have eo' := unhide eo
      go_upto_region 14 with fail
      go_region_held3 (fun W => W.cell? ⟨w.heap.size, 0, none⟩ = some (.int .u64 (g : Nat)) ∧ W.cell? ⟨bt, ot + 3 * k, none⟩ = some (.int .u8 (t0.toNat : Int)) ∧ W.cell? ⟨bt, ot + (3 * k + 1), none⟩ = some (.int .u8 (t1.toNat : Int)) ∧ W.cell? ⟨bt, ot + (3 * k + 2), none⟩ = some (.int .u8 (t2.toNat : Int))) (first | exact ⟨by with_reducible assumption, by with_reducible assumption, by with_reducible assumption, by with_reducible assumption⟩ | exact ⟨by go_simp, by go_simp, by go_simp, by go_simp⟩)
        (first
        | (refine step_app rfl (.tmp 50) (.tmp 72) 28 rfl w9.heap.size 5 i0 _ 1 1 Tryd.underlying28 hi0 hz0 hz1 hz2 rfl (Nat.succ_pos _) _ (4 * k) ((grp r k).map u8v) rfl (World.ownsRow.alloc (own_drew (unhide o)) (.cells #[.int .u8 ((oct g 0).toNat : Int), .int .u8 (t0.toNat : Int), .int .u8 (t1.toNat : Int), .int .u8 (t2.toNat : Int)] 5)) _ 4 4 (([oct g 0, t0, t1, t2] : List UInt8).map u8v) rfl rfl (unhide hsc wr.drew) (unhide ho) (unhide b3) (unhide b4) (sz_alloc (w := wr.drew) (unhide hsz) _) ?_
           intro v4 w4 o4 hg4
           have hb4 : Below w9.heap.size w9 w4 := (Below.drew (unhide b)).trans (bl_app (w := wr.drew) (unhide hsz) (own_drew (unhide o)) hg4)
           rw [← List.map_append, ← unhide hs] at o4
           obtain ⟨A4, c4, rfl⟩ := ownsRow_form o4
           have f0 : w4.cell? ⟨w.heap.size, 0, none⟩ = some (.int .u64 (g : Nat)) := (hb4.cell (p := ⟨w.heap.size, 0, none⟩) hw9).trans cg
           have f1 := (hb4.cell (p := ⟨bt, ot + 3 * k, none⟩) hbt).trans (((unhide b).cell (p := ⟨bt, ot + 3 * k, none⟩) hbt).symm.trans c1)
           have f2 := (hb4.cell (p := ⟨bt, ot + (3 * k + 1), none⟩) hbt).trans (((unhide b).cell (p := ⟨bt, ot + (3 * k + 1), none⟩) hbt).symm.trans c2)
           have f3 := (hb4.cell (p := ⟨bt, ot + (3 * k + 2), none⟩) hbt).trans (((unhide b).cell (p := ⟨bt, ot + (3 * k + 2), none⟩) hbt).symm.trans c3)
           replace o4 := hide o4; replace hb4 := hide hb4
           clear hg4))
      go_wp2_with (fail)
      go_roundw
      case rel => exact ⟨k + 1, by omega, by go_num, ⟨A4, c4, by rw [unhide hl4]⟩, by rw [unhide hl4]; exact o4, hb4⟩
      case measure => simp [intOf]; omega
    · obtain rfl : k = 8 := by omega
      rw [unhide hgf] at o
      go_wp2_with fail
      go_ret2
      have hB : Below w.heap.size w wr := (unhide hB9).trans ((unhide b).mono (Nat.le_of_lt hw9))
      refine ⟨_, _, rfl, ?_, hB⟩
      have o9 := unhide o
      rw [show 4 * 8 = (octs r).length from (octs_len r).symm] at o9
      have q := Bs.of_own o9
      rw [octs_len] at q
      exact q.mono (Nat.le_of_lt hw9) (Nat.le_refl _)
end Go.Proofs.YtommlgdolahfbaaDoor
