import Derived.Test.YtommlgdolahfbaaDoorW4
namespace Go.Proofs.YtommlgdolahfbaaDoor
set_option maxRecDepth 100000
open Go.RowKit

theorem Only.cell {g : Nat} {w w' : World} (h : Only g w w') {p : Addr} (hp : p.block ≠ g) : w'.cell? p = w.cell? p := World.cell?_of_block (h.block p.block hp)

/-- A disk's pages with the page of a sector put in its place. -/
def wrPg (ps : List Pg) (at_ : Int) (b : List UInt8) : List Pg := ps.filter (fun p => decide (p.at_ < at_)) ++ (⟨at_, b⟩ :: ps.filter (fun p => decide (at_ < p.at_)))

theorem place_take {ps : List Pg} {at_ : Int} {i : Nat} (h : Place ps at_ i) : ps.filter (fun p => decide (p.at_ < at_)) = ps.take i := by
  have e := List.take_append_drop i ps
  conv => lhs; rw [← e]
  rw [List.filter_append]
  have h1 : (ps.take i).filter (fun p => decide (p.at_ < at_)) = ps.take i := by
    rw [List.filter_eq_self]
    intro p hp
    obtain ⟨j, hj, rfl⟩ := List.mem_iff_getElem.1 hp
    rw [List.length_take] at hj
    rw [List.getElem_take]
    simpa using h.2.1 j (by omega) (by omega)
  have h2 : (ps.drop i).filter (fun p => decide (p.at_ < at_)) = [] := by
    rw [List.filter_eq_nil_iff]
    intro p hp
    obtain ⟨j, hj, rfl⟩ := List.mem_iff_getElem.1 hp
    rw [List.length_drop] at hj
    rw [List.getElem_drop]
    have := h.2.2 (i + j) (by omega) (by omega)
    simp
    omega
  rw [h1, h2, List.append_nil]

theorem place_drop {ps : List Pg} {at_ : Int} {i : Nat} (h : Place ps at_ i) (hr : Rises ps) : ps.filter (fun p => decide (at_ < p.at_)) = if isAt ps at_ i then ps.drop (i + 1) else ps.drop i := by
  have e := List.take_append_drop i ps
  conv => lhs; rw [← e]
  rw [List.filter_append]
  have h1 : (ps.take i).filter (fun p => decide (at_ < p.at_)) = [] := by
    rw [List.filter_eq_nil_iff]
    intro p hp
    obtain ⟨j, hj, rfl⟩ := List.mem_iff_getElem.1 hp
    rw [List.length_take] at hj
    rw [List.getElem_take]
    have := h.2.1 j (by omega) (by omega)
    simp
    omega
  rw [h1, List.nil_append]
  by_cases hi : i < ps.length
  · have hd : ps.drop i = ps[i] :: ps.drop (i + 1) := List.drop_eq_getElem_cons hi
    have hge := h.2.2 i hi (Nat.le_refl _)
    have h2 : (ps.drop (i + 1)).filter (fun p => decide (at_ < p.at_)) = ps.drop (i + 1) := by
      rw [List.filter_eq_self]
      intro p hp
      obtain ⟨j, hj, rfl⟩ := List.mem_iff_getElem.1 hp
      rw [List.length_drop] at hj
      rw [List.getElem_drop]
      have := hr i (i + 1 + j) hi (by omega) (by omega)
      simp
      omega
    have ha : isAt ps at_ i = decide (ps[i].at_ = at_) := by unfold isAt; rw [List.getElem?_eq_getElem hi]
    rw [ha, hd, List.filter_cons, h2]
    by_cases hq : ps[i].at_ = at_
    · rw [if_neg (by simp; omega), if_pos (by simpa using hq)]
    · rw [if_pos (by simp; omega), if_neg (by simpa using hq)]
  · have h0 : ps.drop i = [] := List.drop_of_length_le (by omega)
    have h0' : ps.drop (i + 1) = [] := List.drop_of_length_le (by omega)
    rw [h0, h0']
    simp

theorem wrPg_at {ps : List Pg} {at_ : Int} {i : Nat} {b : List UInt8} (h : Place ps at_ i) (hr : Rises ps) (ha : isAt ps at_ i = true) : wrPg ps at_ b = ps.set i ⟨at_, b⟩ := by
  have hi : i < ps.length := by
    unfold isAt at ha
    rcases Nat.lt_or_ge i ps.length with h1 | h1
    · exact h1
    · rw [List.getElem?_eq_none h1] at ha; cases ha
  unfold wrPg
  rw [place_take h, place_drop h hr, if_pos ha, List.set_eq_take_append_cons_drop, if_pos hi]

theorem wrPg_not {ps : List Pg} {at_ : Int} {i : Nat} {b : List UInt8} (h : Place ps at_ i) (hr : Rises ps) (ha : isAt ps at_ i = false) : wrPg ps at_ b = ps.take i ++ (⟨at_, b⟩ :: ps.drop i) := by
  unfold wrPg
  rw [place_take h, place_drop h hr, if_neg (by simp [ha])]

/-- Pages out of a row that the call owns. -/
theorem Pgs.of_own {w : World} {base : Nat} {v : Value} {ps : List Pg} {cs : List Value} (h : w.ownsRow base 56 2 v ps.length cs)
    (hc : ∀ j p, ps[j]? = some p → ∃ bv, cs[j * 2]? = some (.int .i64 p.at_) ∧ cs[j * 2 + 1]? = some bv ∧ Bs base w.heap.size w bv p.b) : Pgs base w.heap.size w v ps := by
  rcases h.2 with ⟨rfl, h0⟩ | ⟨g, cap, cur, rfl, hb, hg, hnc, hcm, hcs, htake⟩
  · exact ⟨none, 0, by rw [h0], by omega, by omega, fun hp => by omega, fun b off e => by cases e⟩
  · refine ⟨_, cap, rfl, hnc, by simpa [maxLen] using hcm, fun hp => ⟨g, 0, rfl, hb, Blk.lt (t := 56) (cs := cur) hg⟩, fun b off e i hi => ?_⟩
    injection e with e
    injection e with e1 e2
    subst e1 e2
    obtain ⟨bv, c0, c1, hbs⟩ := hc i _ (List.getElem?_eq_getElem hi)
    refine ⟨[.int .i64 ps[i].at_, bv], rfl, fun j hj => ?_, bv, rfl, hbs⟩
    have hl := h.1
    have hcell := fun j (hj : j < ps.length * 2) => World.ownsRow.cellAt (w := w) (base := base) (e := 56) (size := 2) (g := g) (n := ps.length) (cap := cap) (xs := cs) h j hj
    match j, hj with
    | 0, _ => rw [Nat.zero_add, Nat.add_zero, hcell _ (by omega)]; exact c0
    | 1, _ => rw [Nat.zero_add, hcell _ (by omega)]; exact c1

/-- A page's bytes out of the block in which all lie. -/
theorem Bs.of_blk {w : World} {base ga j : Nat} {bs : List Value} {l : List UInt8} (h : Blk w ga 5 bs.toArray) (hb : base ≤ ga) (hl : l.length = 32) (hc : ∀ t x, l[t]? = some x → bs[j * 32 + t]? = some (u8v x)) :
    Bs base w.heap.size w (.slice (some ⟨ga, j * 32, none⟩) 32 32) l := by
  refine ⟨_, 32, by rw [hl], by omega, by omega, fun _ => ⟨ga, j * 32, rfl, hb, h.lt, fun i hi => ?_⟩⟩
  rw [h.cell]
  have := hc i _ (List.getElem?_eq_getElem hi)
  simpa using this

/-- The row of the pages, as one that is owned. -/
theorem own_of_blk {w : World} {base gw n : Nat} {ws : List Value} (h : Blk w gw 56 ws.toArray) (hb : base ≤ gw) (hl : ws.length = n * 2) (hn : n ≤ 1000000) : w.ownsRow base 56 2 (.slice (some ⟨gw, 0, none⟩) n n) n ws :=
  ⟨hl, .inr ⟨gw, n, ws.toArray, rfl, hb, h, Nat.le_refl _, by simp [maxLen]; omega, by simpa using hl, by simp [← hl]⟩⟩

theorem CloneOut.dsk {w : World} {v : Value} {d : Dk} {base : Nat} (h : CloneOut w v d base) (h32 : ∀ (j : Nat) (q : Pg), d.wet[j]? = some q → q.b.length = 32) (hn : d.wet.length ≤ 1000000) : Dsk base w.heap.size w v d := by
  obtain ⟨A', c', gw, ga, ws, bs, rfl, ho, hw, hwl, hb, hbl, hp, hq, h1, h2, _⟩ := h
  refine ⟨_, _, rfl, Bs.of_own ho, Pgs.of_own (own_of_blk hw (Nat.le_of_lt h1) hwl hn) fun j p hj => ?_⟩
  have hlt : j < d.wet.length := (List.getElem?_eq_some_iff.1 hj).1
  obtain ⟨c0, c1⟩ := hp j p hj hlt
  exact ⟨_, c0, c1, Bs.of_blk hb (Nat.le_of_lt h2) (h32 j p hj) (hq j p hj hlt)⟩

theorem pagesAt_set {ws : List Value} {ga n i : Nat} {ps : List Pg} {p : Pg} {b : List UInt8} (h : pagesAt ws ga n ps) (hp : ps[i]? = some p) : pagesAt ws ga n (ps.set i ⟨p.at_, b⟩) := by
  intro j q hq hj
  by_cases hij : i = j
  · subst hij
    rw [List.getElem?_set_self (List.getElem?_eq_some_iff.1 hp).1] at hq
    injection hq with hq
    subst hq
    exact h i p hp hj
  · rw [List.getElem?_set_ne hij] at hq
    exact h j q hq hj

theorem bytesAt_set {bs : List Value} {n i : Nat} {ps : List Pg} {p : Pg} {b : List UInt8} {at_ : Int} (h : bytesAt bs n ps) (hp : ps[i]? = some p) (h32 : ∀ (j : Nat) (q : Pg), ps[j]? = some q → q.b.length = 32) (hb : b.length = 32)
    (hl : bs.length = n * 32) (hin : i < n) : bytesAt (splice bs (i * 32) (b.map u8v)) n (ps.set i ⟨at_, b⟩) := by
  intro j q hq hj t x hx
  have hfit : i * 32 + (b.map u8v).length ≤ bs.length := by simp [hb, hl]; omega
  rw [splice_get _ _ _ hfit]
  simp only [List.length_map, hb]
  by_cases hij : i = j
  · subst hij
    rw [List.getElem?_set_self (List.getElem?_eq_some_iff.1 hp).1] at hq
    injection hq with hq
    subst hq
    have ht : t < 32 := by
      have := (List.getElem?_eq_some_iff.1 hx).1
      simp only [hb] at this
      exact this
    rw [if_neg (by omega), if_pos (by omega), show i * 32 + t - i * 32 = t by omega, List.getElem?_map]
    simp only [] at hx
    rw [hx]
    rfl
  · rw [List.getElem?_set_ne hij] at hq
    have ht : t < 32 := by
      have := (List.getElem?_eq_some_iff.1 hx).1
      rw [h32 j q hq] at this
      exact this
    have := h j q hq hj t x hx
    rcases Nat.lt_or_ge j i with h1 | h1
    · rw [if_pos (by omega)]; exact this
    · rw [if_neg (by omega), if_neg (by omega)]; exact this

end Go.Proofs.YtommlgdolahfbaaDoor
