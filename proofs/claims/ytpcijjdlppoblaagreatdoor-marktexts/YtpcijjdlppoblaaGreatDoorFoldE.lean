/- strings.Join: its contracts, laid at this program (the library proves them of every program). -/
import Derived.Shelf.Strings.OnBuilder
import Derived.Test.YtpcijjdlppoblaaGreatDoorProg
import Derived.Test.YtpcijjdlppoblaaGreatDoorFoldD
namespace Go.Proofs.YtpcijjdlppoblaaGreatDoor
open Go.Shelf Go.Proofs
def lays156_ren : Go.Shelf.Ren := ⟨fun | 156 => 139 | 165 => 144 | 166 => 145 | 169 => 146 | 240 => 151 | 241 => 152 | 276 => 154 | 277 => 155 | n => n, fun | 31 => 35 | 9 => 9 | 3 => 3 | 4 => 4 | 0 => 0 | 20 => 20 | 72 => 146 | 76 => 150 | 70 => 144 | 37 => 82 | 75 => 149 | 127 => 155 | 164 => 156 | 5 => 5 | 80 => 152 | n => n, fun | n => n⟩
theorem lays156 : Go.Proofs.Lays.n156 Tryz.prog lays156_ren := {
  mixed := by kernel_rfl
  f156 := Tryz.func139.trans (congrArg some (by kernel_rfl))
  f165 := Tryz.func144.trans (congrArg some (by kernel_rfl))
  f166 := Tryz.func145.trans (congrArg some (by kernel_rfl))
  f169 := Tryz.func146.trans (congrArg some (by kernel_rfl))
  f240 := Tryz.func151.trans (congrArg some (by kernel_rfl))
  f241 := Tryz.func152.trans (congrArg some (by kernel_rfl))
  f276 := Tryz.func154.trans (congrArg some (by kernel_rfl))
  f277 := Tryz.func155.trans (congrArg some (by kernel_rfl))
  t0 := Tryz.underlying0
  a0 := Tryz.isAgg0
  z0 := Tryz.sizeOf0
  v0 := Tryz.zeroValue0
  t3 := Tryz.underlying3
  a3 := Tryz.isAgg3
  z3 := Tryz.sizeOf3
  v3 := Tryz.zeroValue3
  t4 := Tryz.underlying4
  a4 := Tryz.isAgg4
  z4 := Tryz.sizeOf4
  v4 := Tryz.zeroValue4
  t9 := Tryz.underlying9
  a9 := Tryz.isAgg9
  z9 := Tryz.sizeOf9
  v9 := Tryz.zeroValue9
  t20 := Tryz.underlying20
  a20 := Tryz.isAgg20
  z20 := Tryz.sizeOf20
  v20 := Tryz.zeroValue20
  t31 := Tryz.underlying35
  a31 := Tryz.isAgg35
  z31 := Tryz.sizeOf35
  v31 := Tryz.zeroValue35
  t37 := Tryz.underlying82
  a37 := Tryz.isAgg82
  z37 := Tryz.sizeOf82
  v37 := Tryz.zeroValue82
  t70 := Tryz.underlying144
  a70 := Tryz.isAgg144
  z70 := Tryz.sizeOf144
  v70 := Tryz.zeroValue144
  t72 := Tryz.underlying146
  a72 := Tryz.isAgg146
  z72 := Tryz.sizeOf146
  v72 := Tryz.zeroValue146
  t75 := Tryz.underlying149
  a75 := Tryz.isAgg149
  z75 := Tryz.sizeOf149
  v75 := Tryz.zeroValue149
  t76 := Tryz.underlying150
  a76 := Tryz.isAgg150
  z76 := Tryz.sizeOf150
  v76 := Tryz.zeroValue150
  t127 := Tryz.underlying155
  a127 := Tryz.isAgg155
  z127 := Tryz.sizeOf155
  v127 := Tryz.zeroValue155
  t164 := Tryz.underlying156
  a164 := Tryz.isAgg156
  z164 := Tryz.sizeOf156
  v164 := Tryz.zeroValue156 }
theorem bx156 : Builder.Extra Tryz.prog lays156_ren := {
  sizeBuilder := by kernel_rfl
  liesBuilder := by kernel_rfl
  t5 := Tryz.underlying5
  a5 := Tryz.isAgg5
  z5 := Tryz.sizeOf5
  v5 := Tryz.zeroValue5
  infoByte := by kernel_rfl
  cellsByte := by kernel_rfl
  sizeByte := by kernel_rfl
  neB5 := by decide }
open Go.RowKit in
theorem join_none (a : Option Addr) (c : Nat) (sep : ByteArray) (w : World) :
    Calls Tryz.prog 139 #[.slice a 0 c, .string sep] w fun e w' => e = .returned (.string ⟨#[]⟩) ∧ w' = w := Any.strings_Join_none lays156 bx156 a c sep w
open Go.RowKit in
theorem join_some (bk o c : Nat) (xs : List ByteArray) (sep : ByteArray) (w : World) (hcells : ∀ (j : Nat) x, xs[j]? = some x → w.cell? ⟨bk, o + j, none⟩ = some (.string x)) (hbk : bk < w.heap.size) (hN : xs.length ≤ 140737488355328) (hcap : xs.length ≤ c) (hlen : (Lib.join (xs.map (·.data.toList)) sep.data.toList).length ≤ 140737488355328) :
    Calls Tryz.prog 139 #[.slice (some ⟨bk, o, none⟩) xs.length c, .string sep] w fun e w' => e = .returned (.string ⟨(Lib.join (xs.map (·.data.toList)) sep.data.toList).toArray⟩) ∧ Below w.heap.size w w' := Any.strings_Join lays156 bx156 bk o c xs sep w hcells hbk hN hcap hlen
end Go.Proofs.YtpcijjdlppoblaaGreatDoor

/- Contracts of package fold's functions: Fold. -/
namespace Go.Proofs.YtpcijjdlppoblaaGreatDoor.Fo
open Go.RowKit
set_option linter.unusedVariables false

/-- Block g, at B or above it, holds the texts ls from its beginning on, and none is frozen. -/
structure Row (w : World) (B g : Nat) (ls : List (List UInt8)) : Prop where
  cell : ∀ j x, ls[j]? = some x → w.cell? ⟨g, j, none⟩ = some (.string (mkb x))
  free : ∀ j, j < ls.length → w.frozen? ⟨g, j, none⟩ = false
  lt : g < w.heap.size
  ge : B ≤ g
theorem add0 (g j : Nat) : (⟨g, 0, none⟩ : Addr).add j = ⟨g, j, none⟩ := by unfold Addr.add; split <;> simp_all
theorem Row.of_own {w : World} {base g n c : Nat} {ls : List (List UInt8)} (hn : 0 < n) (h : w.ownsRow base 9 1 (.slice (some ⟨g, 0, none⟩) n c) n (ls.map sv)) : Row w base g ls := by
  rcases h.2 with ⟨_, h0⟩ | ⟨g', cap, cur, hv, hb, hg, _⟩
  · omega
  · have hA : g = g' := by injection hv with h1 _ _; injection h1 with h1; injection h1
    subst hA
    refine ⟨fun j x hx => ?_, fun j hj => ?_, (Array.getElem?_eq_some_iff.1 hg).1, hb⟩
    · rw [← add0]; exact h.cells (g := g) rfl j (sv x) (by simp [hx])
    · simp [World.frozen?, hg]
theorem own_cap {w : World} {base g n c : Nat} {ls : List Value} (h : w.ownsRow base 9 1 (.slice (some ⟨g, 0, none⟩) n c) n ls) : n ≤ c := by
  rcases h.2 with ⟨h0, _⟩ | ⟨g', cap, cur, hv, hb, hg, h1, _⟩
  · cases h0
  · injection hv with _ _ h3; omega
theorem Row.below {w w' : World} {B g : Nat} {ls : List (List UInt8)} (h : Row w B g ls) (b : Below w.heap.size w w') : Row w' B g ls :=
  ⟨fun j x hx => (b.cell (p := ⟨g, j, none⟩) h.lt).trans (h.cell j x hx), fun j hj => (b.frozen (p := ⟨g, j, none⟩) h.lt).trans (h.free j hj), Nat.lt_of_lt_of_le h.lt b.size, h.ge⟩
theorem Row.set {w : World} {B g k : Nat} {ls : List (List UInt8)} (h : Row w B g ls) (hk : k < ls.length) (y : List UInt8) : Row (w.setCell ⟨g, k, none⟩ (.string (mkb y))) B g (ls.set k y) := by
  refine ⟨fun j x hx => ?_, fun j hj => ?_, ?_, h.ge⟩
  · by_cases e : j = k
    · subst e
      rw [List.getElem?_set_self hk] at hx
      cases hx
      exact World.cell?_setCell_same' _ _ _ (by rw [h.cell j _ (List.getElem?_eq_getElem hk)]; rfl)
    · rw [List.getElem?_set_ne (fun h => e h.symm)] at hx
      rw [World.cell?_setCell_other _ _ _ _ (fun h => e (by injection h with _ h2 _; exact h2.symm))]
      exact h.cell j x hx
  · rw [World.frozen?_setCell]; exact h.free j (by simpa using hj)
  · exact Nat.lt_of_lt_of_le h.lt (KeepsWalks.setCell w _ _).size
theorem Row.rs {w : World} {B g : Nat} {ls : List (List UInt8)} (h : Row w B g ls) : Rs w w.heap.size (some ⟨g, 0, none⟩) ls :=
  fun j x hx => ⟨_, rfl, h.lt, by rw [add0]; exact h.cell j x hx⟩

/-- The lines, the first k of them cut. -/
def cutP (p : Int) (k : Nat) (ls : List (List UInt8)) : List (List UInt8) := cutL p (ls.take k) ++ ls.drop k
theorem cutL_snoc {p : Int} {a : List (List UInt8)} {x : List UInt8} (h : a ≠ []) : cutL p (a ++ [x]) = cutL p a ++ [x.drop p.toNat] := by
  cases a with
  | nil => exact absurd rfl h
  | cons y r => simp [cutL]
theorem cutP_one (p : Int) (ls : List (List UInt8)) : cutP p 1 ls = ls := by
  cases ls with
  | nil => rfl
  | cons y r => simp [cutP, cutL]
theorem cutP_at {p : Int} {k : Nat} {ls : List (List UInt8)} (h : k < ls.length) : (cutP p k ls)[k]? = some ls[k] := by
  unfold cutP
  have e : (cutL p (ls.take k)).length = k := by rw [cut_len, List.length_take]; omega
  rw [List.getElem?_append_right (by omega), e, Nat.sub_self, List.getElem?_drop, Nat.add_zero, List.getElem?_eq_getElem h]
theorem cutP_len (p : Int) (k : Nat) (ls : List (List UInt8)) : (cutP p k ls).length = ls.length := by
  unfold cutP; rw [List.length_append, cut_len, List.length_take, List.length_drop]; omega
theorem cutP_next {p : Int} {k : Nat} {ls : List (List UInt8)} (hk : 1 ≤ k) (h : k < ls.length) : cutP p (k + 1) ls = (cutP p k ls).set k (ls[k].drop p.toNat) := by
  unfold cutP
  have e : (cutL p (ls.take k)).length = k := by rw [cut_len, List.length_take]; omega
  rw [List.set_append_right _ _ (by omega), e, Nat.sub_self, List.drop_eq_getElem_cons h, List.set_cons_zero, List.take_add_one, List.getElem?_eq_getElem h]
  rw [Option.toList_some, cutL_snoc (by intro h0; have := congrArg List.length h0; rw [List.length_take, List.length_nil] at this; omega)]
  simp
theorem cutP_end {p : Int} {k : Nat} {ls : List (List UInt8)} (h : ls.length ≤ k) : cutP p k ls = cutL p ls := by
  unfold cutP; rw [List.take_of_length_le h, List.drop_eq_nil_of_le h, List.append_nil]
theorem cut_mem {p : Int} {ls : List (List UInt8)} {N : Nat} (h : ∀ x ∈ ls, x.length ≤ N) : ∀ x ∈ cutL p ls, x.length ≤ N := by
  cases ls with
  | nil => exact h
  | cons a t =>
    intro x hx
    rcases List.mem_cons.1 hx with rfl | hx
    · exact h x (by simp)
    · obtain ⟨y, hy, rfl⟩ := List.mem_map.1 hx
      have := h y (by simp [hy]); simp; omega
theorem lnA_len (p : Bool) (l : List UInt8) : ∀ x ∈ lnA p l, x.length ≤ l.length := by
  intro x hx
  have h1 := lnA_wgt p l
  have h2 := wgt_sub (List.singleton_sublist.2 hx)
  rw [wgt_cons, wgt_nil] at h2
  omega
theorem min_drop (x : List UInt8) (p : Nat) : x.drop (min p x.length) = x.drop p := by
  by_cases h : p ≤ x.length
  · rw [Nat.min_eq_left h]
  · rw [Nat.min_eq_right (by omega), List.drop_eq_nil_of_le (Nat.le_refl _), List.drop_eq_nil_of_le (by omega)]

/-! ### Fold's walk -/
theorem Row.drewN {w : World} {B g : Nat} {ls : List (List UInt8)} (h : Row w B g ls) (n : Nat) : Row (w.drewN n) B g ls := ⟨h.cell, h.free, h.lt, h.ge⟩
/-- The first k lines are blank. -/
def Bk (ls : List (List UInt8)) (k : Nat) : Prop := ∀ j, j < k → ∃ x, ls[j]? = some x ∧ blk x = true
theorem Bk.start (ls : List (List UInt8)) : Bk ls 0 := fun j hj => by omega
theorem Bk.next {ls : List (List UInt8)} {k : Nat} {x : List UInt8} (h : Bk ls k) (hx : ls[k]? = some x) (hb : blk x = true) : Bk ls (k + 1) := by
  intro j hj
  by_cases e : j = k
  · subst e; exact ⟨x, hx, hb⟩
  · exact h j (by omega)
theorem Bk.ends {ls : List (List UInt8)} {k : Nat} (h : Bk ls k) (hk : k = ls.length ∨ ∃ x, ls[k]? = some x ∧ blk x = false) : trm ls = rtr (ls.drop k) := by unfold trm; rw [dw_drop ls h hk]
/-- From place e on all is blank. -/
def Rt (ls : List (List UInt8)) (k e : Nat) : Prop := rtr (ls.drop k) = rtr ((ls.drop k).take (e - k))
theorem Rt.start {ls : List (List UInt8)} {k n : Nat} (h : ls.length = n) : Rt ls k n := by
  unfold Rt; rw [List.take_of_length_le (by rw [List.length_drop]; omega)]
theorem Rt_cut {ls : List (List UInt8)} {k e : Nat} {x : List UInt8} (hk : k < e + 1) (hx : ls[e]? = some x) : (ls.drop k).take (e + 1 - k) = (ls.drop k).take (e - k) ++ [x] := by
  rw [show e + 1 - k = (e - k) + 1 by omega, List.take_add_one, List.getElem?_drop, show k + (e - k) = e by omega, hx]; rfl
theorem Rt.next {ls : List (List UInt8)} {k e : Nat} {x : List UInt8} (h : Rt ls k (e + 1)) (hk : k < e + 1) (hx : ls[e]? = some x) (hb : blk x = true) : Rt ls k e := by
  unfold Rt at h ⊢; rw [h, Rt_cut hk hx, rtr_y hb]
theorem Rt.stop {ls : List (List UInt8)} {k e : Nat} {x : List UInt8} (h : Rt ls k (e + 1)) (hk : k < e + 1) (hx : ls[e]? = some x) (hb : blk x = false) : rtr (ls.drop k) = (ls.drop k).take (e + 1 - k) := by
  unfold Rt at h; rw [h, Rt_cut hk hx, rtr_n hb]
theorem Rt.none {ls : List (List UInt8)} {k : Nat} (h : Rt ls k k) : rtr (ls.drop k) = [] := by
  unfold Rt at h; rw [h, Nat.sub_self]; rfl
theorem joinOf {w : World} {B g k e : Nat} {ls : List (List UInt8)} (h : Row w B g ls) (hk : k ≤ e) (he : e ≤ ls.length) : ∀ (j : Nat) x, (((ls.drop k).take (e - k)).map mkb)[j]? = some x → w.cell? ⟨g, k + j, Option.none⟩ = some (.string x) := by
  intro j x hx
  rw [List.getElem?_map, Option.map_eq_some_iff] at hx
  obtain ⟨y, hy, rfl⟩ := hx
  refine h.cell (k + j) y ?_
  obtain ⟨h1, h2⟩ := List.getElem?_eq_some_iff.1 hy
  rw [List.length_take, List.length_drop] at h1
  rw [List.getElem?_take_of_lt (by omega), List.getElem?_drop] at hy
  exact hy
theorem joinR {w : World} {B g k e n c : Nat} {ls : List (List UInt8)} (h : Row w B g ls) (hk : k ≤ e) (he : e ≤ ls.length) (hn : e - k = n) (hc : n ≤ c) (hw : wgt ls ≤ 1000000000) :
    Calls Tryz.prog 139 #[.slice (some ⟨g, k, Option.none⟩) n c, .string ⟨#[10]⟩] w fun e' w' => e' = .returned (.string (mkb (Lib.join ((ls.drop k).take n) [10]))) ∧ Below w.heap.size w w' := by
  have hl : (((ls.drop k).take (e - k)).map mkb).length = n := by rw [List.length_map, List.length_take, List.length_drop]; omega
  have hm : (((ls.drop k).take (e - k)).map mkb).map (·.data.toList) = (ls.drop k).take n := by
    rw [List.map_map, hn]
    conv => rhs; rw [← List.map_id ((ls.drop k).take n)]
    apply List.map_congr_left; intro b _; rfl
  have hj := (join_wgt ((ls.drop k).take n)).1
  have hs := wgt_sub ((List.take_sublist n (ls.drop k)).trans (List.drop_sublist k ls))
  have hwl : ls.length ≤ wgt ls := by unfold wgt; omega
  have := join_some g k c (((ls.drop k).take (e - k)).map mkb) ⟨#[10]⟩ w (joinOf h hk he) h.lt (by omega) (by omega) (by rw [hm]; show (Lib.join _ [10]).length ≤ _; omega)
  rw [hl, hm] at this
  exact this

set_option maxRecDepth 100000 in
set_option maxHeartbeats 2000000 in
theorem fold_any (s : ByteArray) (hs : s.size ≤ 10000000) (w : World) :
    Calls Tryz.prog 128 #[.string s] w fun e w' => e = .returned (.string (mkb (fld s.data.toList))) ∧ Below w.heap.size w w' := by
  have hct := lns_count s.data.toList
  rw [← Lib.size_eq] at hct
  have hln : ∀ x ∈ lns s.data.toList, x.length ≤ 1000000000 := fun x hx => by have := lnA_len false s.data.toList x hx; rw [← Lib.size_eq] at this; omega
  obtain ⟨m, hm⟩ : ∃ m, (lns s.data.toList).length = m + 1 := ⟨(lns s.data.toList).length - 1, by have := lns_pos s.data.toList; omega⟩
  have hwg := lnA_wgt false s.data.toList
  change wgt (lns s.data.toList) ≤ _ at hwg
  rw [← Lib.size_eq] at hwg
  obtain ⟨ls, hls⟩ : ∃ ls, ls = lns s.data.toList := ⟨_, rfl⟩
  have r1 := lines_any s (by omega)
  have hfl : fld s.data.toList = Lib.join (trm (cutL (ind ls) ls)) [10] := by rw [hls]; rfl
  rw [hfl]
  rw [← hls] at hct hm r1 hln hwg
  rw [hm] at r1 hct
  clear hls hfl
  obtain ⟨p, hp⟩ : ∃ p, p = ind ls := ⟨_, rfl⟩
  have hpl := ind_bd ls
  have hpu := indP_up hln (m + 1)
  rw [indP_end (by omega)] at hpu
  have r2 := fun (w : World) (c : Nat) (A : Option Addr) (hr : Rs w w.heap.size A ls) => findent_any (c := c) hr hm hln (by omega)
  rw [← hp] at r2 hpl hpu ⊢
  clear hp
  obtain ⟨L, hL⟩ : ∃ L, L = cutL p ls := ⟨_, rfl⟩
  have hLm : ∀ x ∈ L, x.length ≤ 1000000000 := by rw [hL]; exact cut_mem hln
  have hLl : L.length = m + 1 := by rw [hL, cut_len, hm]
  rw [← hL]
  have HM := Lib.hid hm
  have HNs := Lib.hid hln
  have HN := Lib.hid hLm
  have HZ := Lib.hid hLl
  have HWL := Lib.hid (show wgt L ≤ 1000000000 by rw [hL]; have := cut_wgt p ls; omega)
  have HL := Lib.hid hL
  clear hm hln hLm hLl hL hwg
  go_enter Tryz.func128, Tryz.ntmps128
  go_wp2_with fail
  refine (r1 _).mono ?_
  rintro e w1 ⟨v, rfl, hown, hB1⟩
  clear r1
  obtain ⟨g, cap, rfl⟩ := ownsRow_succ hown
  have HR := Lib.hid (Row.of_own (by omega) hown)
  have hcap := own_cap hown
  clear hown
  go_wp2_with fail
  (with_reducible refine (r2 _ _ _ HR.out.rs).mono ?_)
  rintro e w2 ⟨rfl, hB2⟩
  clear r2
  have HR2 := Lib.hid (HR.out.below hB2)
  have hBw := bel_trans hB1 hB2
  clear HR hB1 hB2
  by_cases h0 : 0 < p
  · have d0 : decide (0 < p) = true := by simp [h0]
    go_wp2_with fail
    go_loopw [5] (fun i wr => ∃ k : Nat, 1 ≤ k ∧ k ≤ m + 1 ∧ i = .int .i64 k ∧ Row wr w.heap.size g (cutP p k ls) ∧ Below w.heap.size w wr) (fun i _ => m + 1 - (intOf i).toNat)
    case atStart => exact ⟨1, by omega, by omega, rfl, by rw [cutP_one]; exact HR2.out, hBw⟩
    case round =>
      obtain ⟨k, hk1, hk2, rfl, hrow, hB⟩ := hrel
      by_cases hlt : k < m + 1
      · have hc := hrow.cell k _ (cutP_at (p := p) (ls := ls) (k := k) (by rw [HM.out]; exact hlt))
        have hf := hrow.free k (by rw [cutP_len, HM.out]; exact hlt)
        obtain ⟨x, hx⟩ : ∃ x, ls[k]'(by rw [HM.out]; exact hlt) = x := ⟨_, rfl⟩
        have hnext := cutP_next (p := p) hk1 (show k < ls.length by rw [HM.out]; exact hlt)
        have hxl := HNs.out _ (List.getElem_mem (show k < ls.length by rw [HM.out]; exact hlt))
        rw [hx] at hnext hc hxl
        have hrow3 : Row wr.drew w.heap.size g (cutP p k ls) := ⟨hrow.cell, hrow.free, hrow.lt, hrow.ge⟩
        have hB3 : Below w.heap.size w wr.drew := hB.drew
        have hc3 : wr.drew.cell? ⟨g, k, none⟩ = some (.string (mkb x)) := hc
        have hf3 : wr.drew.frozen? ⟨g, k, none⟩ = false := hf
        have hset := hrow3.set (k := k) (by rw [cutP_len, HM.out]; exact hlt) (x.drop p.toNat)
        rw [← hnext] at hset
        obtain ⟨q, rfl⟩ := Int.eq_ofNat_of_zero_le (show 0 ≤ p by omega)
        rw [Int.toNat_natCast] at hset
        have HS := Lib.hid hset
        clear hx hnext hset hrow hrow3
        have hmz : (mkb x).size = x.length := mkb_size x
        by_cases hq : q ≤ x.length
        · have hmn : min (q : Int) (x.length : Int) = (q : Int) := by omega
          have HE := Lib.hid (show (mkb x).extract q x.length = mkb (x.drop q) by rw [← hmz, ext_drop]; rfl)
          go_wp2_with fail
          go_still_tail 15, (by kernel_rfl)
          change wpList _ _ _ _ _ wr.drew
          clear hc hf hB
          generalize wr.drew = w3 at *
          go_wp2
          go_roundw
          case rel => exact ⟨k + 1, by omega, by omega, by go_num, by rw [HE.out]; exact HS.out, hB3.setCell (p := ⟨g, k, none⟩) HR2.out.ge _⟩
          case measure => simp [intOf]; omega
        · have hmn : min (q : Int) (x.length : Int) = (x.length : Int) := by omega
          have HE := Lib.hid (show ByteArray.empty = mkb (x.drop q) by rw [List.drop_eq_nil_of_le (by omega)]; rfl)
          go_wp2_with fail
          go_still_tail 15, (by kernel_rfl)
          change wpList _ _ _ _ _ wr.drew
          clear hc hf hB
          generalize wr.drew = w3 at *
          go_wp2
          go_roundw
          case rel => exact ⟨k + 1, by omega, by omega, by go_num, by rw [HE.out]; exact HS.out, hB3.setCell (p := ⟨g, k, none⟩) HR2.out.ge _⟩
          case measure => simp [intOf]; omega
      · rw [cutP_end (by rw [HM.out]; omega), ← HL.out] at hrow
        have HR3 := Lib.hid hrow
        clear hrow HR2 hBw
        go_wp2_with fail
        refine (blankIn_any _ (some ⟨g, 0, none⟩) (m + 1) cap rfl _).mono ?_
        rintro e w' ⟨rfl, rfl⟩
        have hcb := (cell_new_l wr (.slice (some ⟨g, 0, none⟩) (m + 1) cap) 35).1
        have HR := Lib.hid (HR3.out.below (bel_alloc (Below.refl _ _) (.cells #[.slice (some ⟨g, 0, none⟩) (m + 1) cap] 35)))
        have hBa := bel_alloc hB (.cells #[.slice (some ⟨g, 0, none⟩) (m + 1) cap] 35)
        clear HR3 hB
        obtain ⟨bx, hbx⟩ : ∃ bx, wr.heap.size = bx := ⟨_, rfl⟩
        rw [hbx] at hcb ⊢
        clear hbx
        generalize wr.alloc (.cells #[.slice (some ⟨g, 0, none⟩) (m + 1) cap] 35) = wa at *
        go_wp2_with fail
        go_loopw [7] (fun i wr => ∃ k : Nat, k ≤ m + 1 ∧ i = .int .i64 k ∧ Bk L k ∧ Row wr w.heap.size g L ∧ wr.cell? ⟨bx, 0, none⟩ = some (.slice (some ⟨g, 0, none⟩) (m + 1) cap) ∧ Below w.heap.size w wr) (fun i _ => m + 1 - (intOf i).toNat)
        case atStart => exact ⟨0, by omega, rfl, Bk.start _, HR.out, hcb, hBa⟩
        case round =>
          clear hcb hBa HR
          obtain ⟨k, hk, rfl, hbk, hR, hcb, hB⟩ := hrel
          have HR := Lib.hid hR
          have HB := Lib.hid hbk
          clear hR hbk
          by_cases hkm : k < m + 1
          · obtain ⟨x, hx, hxm⟩ := get_of (ls := L) (k := k) (by rw [HZ.out]; omega)
            have hxl := HN.out x hxm
            have d1 : decide ((k : Int) < (m : Int) + 1) = true := decide_eq_true (by omega)
            have r1 := fun (w' : World) (h : w' = wr) => blank_any (w := wr) (k := k) hcb HR.out.rs hx HZ.out hxl (by omega)
            cases hb : blk x
            · rw [hb] at r1
              have hT := HB.out.ends (.inr ⟨x, hx, hb⟩)
              clear hb hx
              go_wp2_with fail
              (with_reducible refine (r1 _ rfl).mono ?_)
              rintro e w5 ⟨rfl, n5, rfl⟩
              clear r1
              have HR5 := Lib.hid (HR.out.drewN n5)
              have hcb5 : (wr.drewN n5).cell? ⟨bx, 0, none⟩ = some (.slice (some ⟨g, 0, none⟩) (m + 1) cap) := hcb
              have hB5 := below_drewN hB n5
              clear HR hcb hB
              generalize wr.drewN n5 = w6 at *
              have HR := HR5
              have hcb := hcb5
              have hB := hB5
              clear HR5 hcb5 hB5
              have HT := Lib.hid hT
              clear hT
              go_wp2_with fail
              go_loopw [8] (fun i wr => ∃ e : Nat, k ≤ e ∧ e ≤ m + 1 ∧ i = .int .i64 e ∧ Rt L k e ∧ Row wr w.heap.size g L ∧ wr.cell? ⟨bx, 0, none⟩ = some (.slice (some ⟨g, 0, none⟩) (m + 1) cap) ∧ Below w.heap.size w wr) (fun i _ => (intOf i).toNat)
              case atStart => exact ⟨m + 1, by omega, by omega, by go_num, Rt.start (by rw [HZ.out]), HR.out, hcb, hB⟩
              case round =>
                clear hcb hB HR
                obtain ⟨e, he1, he2, rfl, hrt, hR, hcb, hB⟩ := hrel
                have HR := Lib.hid hR
                have HRT := Lib.hid hrt
                clear hR hrt
                by_cases hke : k < e
                · obtain ⟨e', rfl⟩ : ∃ e', e = e' + 1 := ⟨e - 1, by omega⟩
                  obtain ⟨x, hx, hxm⟩ := get_of (ls := L) (k := e') (by rw [HZ.out]; omega)
                  have hxl := HN.out x hxm
                  have d1 : decide ((k : Int) < (e' : Int) + 1) = true := decide_eq_true (by omega)
                  cases hb : blk x
                  · have r1 := fun (w' : World) (h : w' = wr) => blank_any (w := wr) (k := e') hcb HR.out.rs hx HZ.out hxl (by omega)
                    rw [hb] at r1
                    have HE := Lib.hid (HT.out.trans (HRT.out.stop hke hx hb))
                    have hR := HR.out.rs
                    have hck : ¬ cap = k := by omega
                    clear hb hx hR
                    go_wp2_with fail
                    (with_reducible refine (r1 _ rfl).mono ?_)
                    rintro e w5 ⟨rfl, n5, rfl⟩
                    clear r1
                    have HR5 := Lib.hid (HR.out.drewN n5)
                    have hB5 := below_drewN hB n5
                    clear HR hB hcb
                    generalize wr.drewN n5 = w6 at *
                    go_wp2_with fail
                    (with_reducible refine (joinR (e := e' + 1) HR5.out (by omega) (by rw [HZ.out]; omega) rfl (by omega) HWL.out).mono ?_)
                    rintro e w7 ⟨rfl, hb7⟩
                    go_wp2
                    go_ret
                    refine ⟨?_, bel_trans hB5 hb7⟩
                    rw [HE.out]; rfl
                  · have r1 := fun (w' : World) (h : w' = wr) => blank_any (w := wr) (k := e') hcb HR.out.rs hx HZ.out hxl (by omega)
                    rw [hb] at r1
                    have HNX := Lib.hid (HRT.out.next hke hx hb)
                    clear hb hx
                    go_wp2_with fail
                    (with_reducible refine (r1 _ rfl).mono ?_)
                    rintro e w5 ⟨rfl, n5, rfl⟩
                    clear r1
                    go_wp2
                    go_roundw
                    case rel => exact ⟨e', by omega, by omega, by go_num, HNX.out, HR.out.drewN n5, hcb, below_drewN hB _⟩
                    case measure => simp [intOf]
                · obtain rfl : e = k := by omega
                  have HE := Lib.hid (HT.out.trans HRT.out.none)
                  go_wp2_with fail
                  all_goals
                    (with_reducible refine (join_none _ _ _ _).mono ?_)
                    rintro e w7 ⟨rfl, hw7⟩
                    subst hw7
                    go_wp2
                    go_ret
                    refine ⟨?_, hB⟩
                    rw [HE.out]; rfl
            · rw [hb] at r1
              have HNX := Lib.hid (HB.out.next hx hb)
              clear hb hx
              go_wp2_with fail
              (with_reducible refine (r1 _ rfl).mono ?_)
              rintro e w5 ⟨rfl, n5, rfl⟩
              clear r1
              go_wp2
              go_roundw
              case rel => exact ⟨k + 1, by omega, by go_num, HNX.out, HR.out.drewN n5, hcb, below_drewN hB _⟩
              case measure => simp [intOf]; omega
          · obtain rfl : k = m + 1 := by omega
            have d1 : decide ((m : Int) + 1 < (m : Int) + 1) = false := by simp
            have hT := HB.out.ends (.inl HZ.out.symm)
            have HT := Lib.hid hT
            clear hT
            go_wp2_with fail
            go_loopw [8] (fun i wr => ∃ e : Nat, m + 1 ≤ e ∧ e ≤ m + 1 ∧ i = .int .i64 e ∧ Rt L (m + 1) e ∧ Row wr w.heap.size g L ∧ wr.cell? ⟨bx, 0, none⟩ = some (.slice (some ⟨g, 0, none⟩) (m + 1) cap) ∧ Below w.heap.size w wr) (fun i _ => (intOf i).toNat)
            case atStart => exact ⟨m + 1, by omega, by omega, by go_num, Rt.start (by rw [HZ.out]), HR.out, hcb, hB⟩
            case round =>
              clear hcb hB HR
              obtain ⟨e, he1, he2, rfl, hrt, hR, hcb, hB⟩ := hrel
              have HR := Lib.hid hR
              have HRT := Lib.hid hrt
              clear hR hrt
              by_cases hke : m + 1 < e
              · omega
              · obtain rfl : e = m + 1 := by omega
                have HE := Lib.hid (HT.out.trans HRT.out.none)
                go_wp2_with fail
                all_goals
                  (with_reducible refine (join_none _ _ _ _).mono ?_)
                  rintro e w7 ⟨rfl, hw7⟩
                  subst hw7
                  go_wp2
                  go_ret
                  refine ⟨?_, hB⟩
                  rw [HE.out]; rfl
  · have d0 : decide (0 < p) = false := by simp; omega
    have hrow := HR2.out
    rw [← cut_no (n := p) (by omega) ls, ← HL.out] at hrow
    have HR3 := Lib.hid hrow
    have hB := hBw
    clear hrow HR2 hBw
    obtain ⟨wr, hwr⟩ : ∃ wr, wr = w2 := ⟨_, rfl⟩
    subst hwr
    go_wp2_with fail
    refine (blankIn_any _ (some ⟨g, 0, none⟩) (m + 1) cap rfl _).mono ?_
    rintro e w' ⟨rfl, rfl⟩
    have hcb := (cell_new_l wr (.slice (some ⟨g, 0, none⟩) (m + 1) cap) 35).1
    have HR := Lib.hid (HR3.out.below (bel_alloc (Below.refl _ _) (.cells #[.slice (some ⟨g, 0, none⟩) (m + 1) cap] 35)))
    have hBa := bel_alloc hB (.cells #[.slice (some ⟨g, 0, none⟩) (m + 1) cap] 35)
    clear HR3 hB
    obtain ⟨bx, hbx⟩ : ∃ bx, wr.heap.size = bx := ⟨_, rfl⟩
    rw [hbx] at hcb ⊢
    clear hbx
    generalize wr.alloc (.cells #[.slice (some ⟨g, 0, none⟩) (m + 1) cap] 35) = wa at *
    go_wp2_with fail
    go_loopw [7] (fun i wr => ∃ k : Nat, k ≤ m + 1 ∧ i = .int .i64 k ∧ Bk L k ∧ Row wr w.heap.size g L ∧ wr.cell? ⟨bx, 0, none⟩ = some (.slice (some ⟨g, 0, none⟩) (m + 1) cap) ∧ Below w.heap.size w wr) (fun i _ => m + 1 - (intOf i).toNat)
    case atStart => exact ⟨0, by omega, rfl, Bk.start _, HR.out, hcb, hBa⟩
    case round =>
      clear hcb hBa HR
      obtain ⟨k, hk, rfl, hbk, hR, hcb, hB⟩ := hrel
      have HR := Lib.hid hR
      have HB := Lib.hid hbk
      clear hR hbk
      by_cases hkm : k < m + 1
      · obtain ⟨x, hx, hxm⟩ := get_of (ls := L) (k := k) (by rw [HZ.out]; omega)
        have hxl := HN.out x hxm
        have d1 : decide ((k : Int) < (m : Int) + 1) = true := decide_eq_true (by omega)
        have r1 := fun (w' : World) (h : w' = wr) => blank_any (w := wr) (k := k) hcb HR.out.rs hx HZ.out hxl (by omega)
        cases hb : blk x
        · rw [hb] at r1
          have hT := HB.out.ends (.inr ⟨x, hx, hb⟩)
          clear hb hx
          go_wp2_with fail
          (with_reducible refine (r1 _ rfl).mono ?_)
          rintro e w5 ⟨rfl, n5, rfl⟩
          clear r1
          have HR5 := Lib.hid (HR.out.drewN n5)
          have hcb5 : (wr.drewN n5).cell? ⟨bx, 0, none⟩ = some (.slice (some ⟨g, 0, none⟩) (m + 1) cap) := hcb
          have hB5 := below_drewN hB n5
          clear HR hcb hB
          generalize wr.drewN n5 = w6 at *
          have HR := HR5
          have hcb := hcb5
          have hB := hB5
          clear HR5 hcb5 hB5
          have HT := Lib.hid hT
          clear hT
          go_wp2_with fail
          go_loopw [8] (fun i wr => ∃ e : Nat, k ≤ e ∧ e ≤ m + 1 ∧ i = .int .i64 e ∧ Rt L k e ∧ Row wr w.heap.size g L ∧ wr.cell? ⟨bx, 0, none⟩ = some (.slice (some ⟨g, 0, none⟩) (m + 1) cap) ∧ Below w.heap.size w wr) (fun i _ => (intOf i).toNat)
          case atStart => exact ⟨m + 1, by omega, by omega, by go_num, Rt.start (by rw [HZ.out]), HR.out, hcb, hB⟩
          case round =>
            clear hcb hB HR
            obtain ⟨e, he1, he2, rfl, hrt, hR, hcb, hB⟩ := hrel
            have HR := Lib.hid hR
            have HRT := Lib.hid hrt
            clear hR hrt
            by_cases hke : k < e
            · obtain ⟨e', rfl⟩ : ∃ e', e = e' + 1 := ⟨e - 1, by omega⟩
              obtain ⟨x, hx, hxm⟩ := get_of (ls := L) (k := e') (by rw [HZ.out]; omega)
              have hxl := HN.out x hxm
              have d1 : decide ((k : Int) < (e' : Int) + 1) = true := decide_eq_true (by omega)
              cases hb : blk x
              · have r1 := fun (w' : World) (h : w' = wr) => blank_any (w := wr) (k := e') hcb HR.out.rs hx HZ.out hxl (by omega)
                rw [hb] at r1
                have HE := Lib.hid (HT.out.trans (HRT.out.stop hke hx hb))
                have hR := HR.out.rs
                have hck : ¬ cap = k := by omega
                clear hb hx hR
                go_wp2_with fail
                (with_reducible refine (r1 _ rfl).mono ?_)
                rintro e w5 ⟨rfl, n5, rfl⟩
                clear r1
                have HR5 := Lib.hid (HR.out.drewN n5)
                have hB5 := below_drewN hB n5
                clear HR hB hcb
                generalize wr.drewN n5 = w6 at *
                go_wp2_with fail
                (with_reducible refine (joinR (e := e' + 1) HR5.out (by omega) (by rw [HZ.out]; omega) rfl (by omega) HWL.out).mono ?_)
                rintro e w7 ⟨rfl, hb7⟩
                go_wp2
                go_ret
                refine ⟨?_, bel_trans hB5 hb7⟩
                rw [HE.out]; rfl
              · have r1 := fun (w' : World) (h : w' = wr) => blank_any (w := wr) (k := e') hcb HR.out.rs hx HZ.out hxl (by omega)
                rw [hb] at r1
                have HNX := Lib.hid (HRT.out.next hke hx hb)
                clear hb hx
                go_wp2_with fail
                (with_reducible refine (r1 _ rfl).mono ?_)
                rintro e w5 ⟨rfl, n5, rfl⟩
                clear r1
                go_wp2
                go_roundw
                case rel => exact ⟨e', by omega, by omega, by go_num, HNX.out, HR.out.drewN n5, hcb, below_drewN hB _⟩
                case measure => simp [intOf]
            · obtain rfl : e = k := by omega
              have HE := Lib.hid (HT.out.trans HRT.out.none)
              go_wp2_with fail
              all_goals
                (with_reducible refine (join_none _ _ _ _).mono ?_)
                rintro e w7 ⟨rfl, hw7⟩
                subst hw7
                go_wp2
                go_ret
                refine ⟨?_, hB⟩
                rw [HE.out]; rfl
        · rw [hb] at r1
          have HNX := Lib.hid (HB.out.next hx hb)
          clear hb hx
          go_wp2_with fail
          (with_reducible refine (r1 _ rfl).mono ?_)
          rintro e w5 ⟨rfl, n5, rfl⟩
          clear r1
          go_wp2
          go_roundw
          case rel => exact ⟨k + 1, by omega, by go_num, HNX.out, HR.out.drewN n5, hcb, below_drewN hB _⟩
          case measure => simp [intOf]; omega
      · obtain rfl : k = m + 1 := by omega
        have d1 : decide ((m : Int) + 1 < (m : Int) + 1) = false := by simp
        have hT := HB.out.ends (.inl HZ.out.symm)
        have HT := Lib.hid hT
        clear hT
        go_wp2_with fail
        go_loopw [8] (fun i wr => ∃ e : Nat, m + 1 ≤ e ∧ e ≤ m + 1 ∧ i = .int .i64 e ∧ Rt L (m + 1) e ∧ Row wr w.heap.size g L ∧ wr.cell? ⟨bx, 0, none⟩ = some (.slice (some ⟨g, 0, none⟩) (m + 1) cap) ∧ Below w.heap.size w wr) (fun i _ => (intOf i).toNat)
        case atStart => exact ⟨m + 1, by omega, by omega, by go_num, Rt.start (by rw [HZ.out]), HR.out, hcb, hB⟩
        case round =>
          clear hcb hB HR
          obtain ⟨e, he1, he2, rfl, hrt, hR, hcb, hB⟩ := hrel
          have HR := Lib.hid hR
          have HRT := Lib.hid hrt
          clear hR hrt
          by_cases hke : m + 1 < e
          · omega
          · obtain rfl : e = m + 1 := by omega
            have HE := Lib.hid (HT.out.trans HRT.out.none)
            go_wp2_with fail
            all_goals
              (with_reducible refine (join_none _ _ _ _).mono ?_)
              rintro e w7 ⟨rfl, hw7⟩
              subst hw7
              go_wp2
              go_ret
              refine ⟨?_, hB⟩
              rw [HE.out]; rfl
end Go.Proofs.YtpcijjdlppoblaaGreatDoor.Fo
