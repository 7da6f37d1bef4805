/- Package kind: its table of texts; finding. -/
import Derived.Test.YtpcijjdlppoblaaGreatDoorPicO
import Derived.Test.YtpcijjdlppoblaaGreatDoorTokR
import Derived.Test.YtpcijjdlppoblaaGreatDoorSliI
import Derived.Laws.OwnMore
namespace Go.Proofs.YtpcijjdlppoblaaGreatDoor
open Go.RowKit
set_option linter.unusedVariables false

/-- The table holds the terminals' texts. -/
def TabK (w : World) : Prop := 1 < w.heap.size ∧ ∀ c, c < 31 → w.cell? ⟨1, c, none⟩ = some (.string (mkb (stK c)))
theorem TabK.below {w w' : World} (h : TabK w) (b : Below w.heap.size w w') : TabK w' :=
  ⟨Nat.lt_of_lt_of_le h.1 b.size, fun c hc => (b.cell (p := ⟨1, c, none⟩) h.1).trans (h.2 c hc)⟩

set_option maxHeartbeats 400000 in
theorem finding_any (s : ByteArray) (w : World) :
    Calls Tryz.prog 54 #[.string s] w fun e w' => e = .returned (.func (.func 81) #[] #[.pointer (some ⟨w.heap.size, 0, none⟩)]) ∧ w' = w.alloc (.cells #[.string s] 9) := by
  go_enter Tryz.func54, Tryz.ntmps54
  go_wp2
  go_ret
  exact ⟨rfl, rfl⟩

set_option maxHeartbeats 1000000 in
theorem find_any {w : World} {bx : Nat} {s : ByteArray} {a b o : Int} (A n O : Nat) (ha : a = A) (hbb : b = A + n - 1) (ho : o = O) (hA : A + n ≤ 31) (hb : w.cell? ⟨bx, 0, none⟩ = some (.string s)) (ht : TabK w) :
    Calls Tryz.prog 81 #[.int .i64 a, .int .i64 b, .int .i64 o, .pointer (some ⟨bx, 0, none⟩)] w fun e w' => e = .returned (.int .i64 ((fndK s.data.toList O A n : Nat) : Int)) ∧ Below w.heap.size w w' := by
  obtain ⟨R, hR⟩ : ∃ R, fndK s.data.toList O A n = R := ⟨_, rfl⟩
  rw [hR]
  have HR := Lib.hid hR
  have HB := Lib.hid hbb
  have HT := Lib.hid ht
  have HC := Lib.hid hb
  have hb1 : b ≤ 30 := by omega
  subst ha ho
  clear hR hbb ht hb
  go_enter Tryz.func81, Tryz.ntmps81
  go_wp2
  go_loopw [8] (fun te wr => ∃ t : Nat, A ≤ t ∧ t ≤ A + n ∧ te = .int .i64 t ∧ Hid (fndK s.data.toList O t (A + n - t) = R) ∧ Below w.heap.size w wr) (fun te _ => A + n - (intOf te).toNat)
  case atStart => exact ⟨A, Nat.le_refl _, by omega, rfl, by rw [show A + n - A = n by omega]; exact HR, Below.refl _ _⟩
  case round =>
    obtain ⟨t, h1, h2, rfl, hf, hB⟩ := hrel
    by_cases hlt : t < A + n
    · have hT := HT.out.below hB
      have hl := hT.2 t (by omega)
      have hcell := bel_cell hB HC.out
      have q1 : (t : Int) ≤ b := by have := HB.out; omega
      have q2 : (t : Int) < 31 := by omega
      have hn : A + n - t = A + n - (t + 1) + 1 := by omega
      obtain ⟨X, hX⟩ : ∃ X, mkb (stK t) = X := ⟨_, rfl⟩
      have hf' := hf.out
      rw [hn, fndK] at hf'
      clear hf hn hT
      by_cases hs : stK t = s.data.toList
      · rw [if_pos hs] at hf'
        have q3 : (X.toList == s.toList) = true := by rw [← hX, mkb_toList, Lib.toList_data, hs]; simp
        rw [hX] at hl
        have HF := Lib.hid hf'
        clear hs hX hf'
        go_wp2
        go_quiet (fail)
        go_wp2
        go_ret
        exact ⟨by rw [HF.out]; rfl, below_drewN hB _⟩
      · rw [if_neg hs] at hf'
        have q3 : (X.toList == s.toList) = false := by rw [← hX, mkb_toList, Lib.toList_data]; simpa using hs
        rw [hX] at hl
        have HF := Lib.hid hf'
        clear hs hX hf'
        go_wp2
        go_quiet (fail)
        go_wp2
        go_roundw
        case rel => exact ⟨t + 1, by omega, by omega, by go_num, HF, below_drewN hB _⟩
        case measure => simp [intOf]; omega
    · have q1 : ¬ (t : Int) ≤ b := by have := HB.out; omega
      have hf' := hf.out
      rw [show A + n - t = 0 by omega, fndK] at hf'
      have HF := Lib.hid hf'
      clear hf' hf
      go_wp2
      go_ret
      exact ⟨by rw [HF.out]; rfl, hB⟩
end Go.Proofs.YtpcijjdlppoblaaGreatDoor

/- Package kind: Of, In, Text. -/
namespace Go.Proofs.YtpcijjdlppoblaaGreatDoor
open Go.RowKit
set_option linter.unusedVariables false

set_option maxHeartbeats 1000000 in
theorem kof_any {k : Int} {s : ByteArray} {a z : Int} {r : Int} (hr : ((ofK k s.data.toList : Nat) : Int) = r) {w : World} (ht : TabK w) :
    Calls Tryz.prog 34 #[.agg #[.int .i64 k, .string s, .int .i64 a, .int .i64 z]] w fun e w' => e = .returned (.int .i64 r) ∧ Below w.heap.size w w' := by
  subst hr
  have hB : Below w.heap.size w ((w.alloc (.cells #[.int .i64 k, .string s, .int .i64 a, .int .i64 z] 25)).alloc (.cells #[.string s] 9)) := bel_alloc (bel_alloc (Below.refl _ _) _) _
  have HT := Lib.hid (ht.below hB)
  clear ht
  by_cases h1 : k = 1
  · subst h1
    have e : ofK 1 s.data.toList = fndK s.data.toList 0 1 14 := rfl
    rw [e]; clear e
    go_enter Tryz.func34, Tryz.ntmps34
    go_wp2_with fail
    (with_reducible refine (finding_any s _).mono ?_)
    rintro e w1 ⟨rfl, rfl⟩
    go_wp2_with fail
    refine (find_any (a := 1) (b := 14) (o := 0) (s := s) 1 14 0 rfl (by decide) rfl (by decide) (by simp [go_sem]) HT.out).mono ?_
    rintro e w2 ⟨rfl, hb2⟩
    have hb := bel_trans hB hb2
    clear hb2
    go_wp2
    go_ret
    exact ⟨rfl, hb⟩
  by_cases h2 : k = 2
  · subst h2
    have e : ofK 2 s.data.toList = fndK s.data.toList 18 19 12 := rfl
    rw [e]; clear e
    go_enter Tryz.func34, Tryz.ntmps34
    go_wp2_with fail
    (with_reducible refine (finding_any s _).mono ?_)
    rintro e w1 ⟨rfl, rfl⟩
    go_wp2_with fail
    refine (find_any (a := 19) (b := 30) (o := 18) (s := s) 19 12 18 rfl (by decide) rfl (by decide) (by simp [go_sem]) HT.out).mono ?_
    rintro e w2 ⟨rfl, hb2⟩
    have hb := bel_trans hB hb2
    clear hb2
    go_wp2
    go_ret
    exact ⟨rfl, hb⟩
  have e : ofK k s.data.toList = if k = 3 then 15 else if k = 4 then 16 else if k = 5 then 17 else 0 := by unfold ofK; rw [if_neg h1, if_neg h2]
  rw [e]; clear e
  have q1 : (k == 1) = false := by simpa using h1
  have q2 : (k == 2) = false := by simpa using h2
  clear h1 h2
  by_cases h3 : k = 3
  · subst h3
    clear q1 q2
    go_enter Tryz.func34, Tryz.ntmps34
    go_wp2_with fail
    (with_reducible refine (finding_any s _).mono ?_)
    rintro e w1 ⟨rfl, rfl⟩
    go_wp2
    go_ret
    exact ⟨rfl, hB⟩
  by_cases h4 : k = 4
  · subst h4
    clear q1 q2 h3
    go_enter Tryz.func34, Tryz.ntmps34
    go_wp2_with fail
    (with_reducible refine (finding_any s _).mono ?_)
    rintro e w1 ⟨rfl, rfl⟩
    go_wp2
    go_ret
    exact ⟨rfl, hB⟩
  by_cases h5 : k = 5
  · subst h5
    clear q1 q2 h3 h4
    go_enter Tryz.func34, Tryz.ntmps34
    go_wp2_with fail
    (with_reducible refine (finding_any s _).mono ?_)
    rintro e w1 ⟨rfl, rfl⟩
    go_wp2
    go_ret
    exact ⟨rfl, hB⟩
  rw [if_neg h3, if_neg h4, if_neg h5]
  have q3 : (k == 3) = false := by simpa using h3
  have q4 : (k == 4) = false := by simpa using h4
  have q5 : (k == 5) = false := by simpa using h5
  clear h3 h4 h5
  go_enter Tryz.func34, Tryz.ntmps34
  go_wp2_with fail
  (with_reducible refine (finding_any s _).mono ?_)
  rintro e w1 ⟨rfl, rfl⟩
  go_wp2
  go_ret
  exact ⟨rfl, hB⟩

/-- A terminal's text, as Text tells it. -/
def txK (te : Int) : ByteArray := mkb (stK te.toNat)
theorem txK_no {te : Int} (h : hasK te = false) : txK te = ⟨#[]⟩ := by
  unfold txK
  by_cases h0 : te < 0
  · rw [show te.toNat = 0 by omega]; rfl
  · obtain ⟨n, rfl⟩ := Int.eq_ofNat_of_zero_le (by omega : 0 ≤ te)
    rw [Int.toNat_natCast]
    by_cases h1 : n < 31
    · rw [stK_none n h1 h]; rfl
    · have : stK n = [] := by
        unfold stK; split <;> first | omega | rfl
      rw [this]; rfl
theorem hasK_iff {te : Int} : hasK te = true ↔ (1 ≤ te ∧ te ≤ 14) ∨ (19 ≤ te ∧ te ≤ 30) := by simp [hasK]
end Go.Proofs.YtpcijjdlppoblaaGreatDoor

/- kind.All. -/
namespace Go.Proofs.YtpcijjdlppoblaaGreatDoor
open Go.RowKit
set_option linter.unusedVariables false

/-- The terminal of a token of a row. -/
def teQ (t : Tq) : Int := ((ofK t.k t.v.data.toList : Nat) : Int)
/-- How All ends. -/
def AllE (n : Nat) (L : List Int) (w : World) (e : Ending) (w' : World) : Prop := ∃ A c, e = .returned (.slice A n c) ∧ Below w.heap.size w w' ∧ Ri w' A L ∧ (A = none → n = 0 ∧ c = 0)
/-- The first k of a row of n are written. -/
def Fil (B g n : Nat) (L : List Int) (k : Nat) (w : World) : Prop := ∃ ys, w.ownsRow B 3 1 (.slice (some ⟨g, 0, none⟩) n n) n ys ∧ ys.take k = (L.take k).map iv
theorem Fil.end {B g n : Nat} {L : List Int} {w : World} (h : Fil B g n L n w) (hL : L.length = n) : Ri w (some ⟨g, 0, none⟩) L := by
  obtain ⟨ys, h1, h2⟩ := h
  have hy : ys.length = n := by have := h1.1; omega
  rw [List.take_of_length_le (by omega), List.take_of_length_le (by omega)] at h2
  subst h2
  subst hL
  exact (ri_row h1).2.1
theorem Fil.at {B g n k : Nat} {L : List Int} {w : World} (h : Fil B g n L k w) (hk : k < n) : (∃ u, w.cell? ⟨g, k, none⟩ = some u) ∧ w.frozen? ⟨g, k, none⟩ = false := by
  obtain ⟨ys, h1, h2⟩ := h
  have hy : ys.length = n := by have := h1.1; omega
  obtain ⟨u, hu⟩ : ∃ u, ys[k]? = some u := ⟨_, List.getElem?_eq_getElem (by omega)⟩
  refine ⟨⟨u, ?_⟩, h1.frozenAt k⟩
  have := h1.cells (g := g) rfl k u hu
  simpa [Addr.add_lit] using this
theorem Fil.next {B g n k : Nat} {L : List Int} {w : World} {x : Int} (h : Fil B g n L k w) (hk : k < n) (hx : L[k]? = some x) : Fil B g n L (k + 1) (w.setCell ⟨g, k, none⟩ (.int .i64 x)) := by
  obtain ⟨ys, h1, h2⟩ := h
  have hy : ys.length = n := by have := h1.1; omega
  refine ⟨_, (h1.stored k (iv x)).1, ?_⟩
  rw [List.take_add_one, List.getElem?_set_self (by omega), List.take_set_of_le (Nat.le_refl _), h2, List.take_add_one, hx]
  simp
theorem Fil.below {B g n k : Nat} {L : List Int} {w w' : World} (h : Fil B g n L k w) (hb : Below w.heap.size w w') : Fil B g n L k w' := by
  obtain ⟨ys, h1, h2⟩ := h
  exact ⟨ys, row_below h1 hb, h2⟩

set_option maxHeartbeats 1000000 in
set_option maxRecDepth 100000 in
theorem kall_any {w : World} {A : Option Addr} {n c : Nat} {ts : List Tq} {L : List Int} (hL : ts.map teQ = L) (ht : TabK w) (ha : Tr w A ts) (hn : ts.length = n) (hz : n ≤ 1000000) :
    Calls Tryz.prog 22 #[.slice A n c] w fun e w' => AllE n L w e w' := by
  have hLn : L.length = n := by rw [← hL, List.length_map, hn]
  have HT := Lib.hid ht
  have HA := Lib.hid ha
  have HN := Lib.hid hn
  have HL := Lib.hid hL
  have HLN := Lib.hid hLn
  obtain ⟨i0, hi, hz0, hz1, hz2⟩ := info_parts infoI
  obtain ⟨w1, hmk, hown, hgr⟩ := run_make_full (P := Tryz.prog) w w.heap.size 22 3 i0 (.int .i64 0) 1 Tryz.underlying22 hi hz0 hz1 .i64 .i64 n (by rw [hz2]; omega) (by unfold maxLen; omega) (Nat.le_refl _)
  have hB1 : Below w.heap.size w w1 := (Below.refl _ w).grown hgr (Nat.le_refl _) (fun k e => by cases e)
  have hF : Fil w.heap.size w.heap.size n L 0 w1 := ⟨_, hown, by simp⟩
  have HF := Lib.hid hF
  clear hL hLn ht ha hn hi hz0 hz1 hz2 hown hgr hF
  go_enter Tryz.func22, Tryz.ntmps22
  go_wp2
  clear hmk
  go_loopw [11] (fun i wr => ∃ k : Nat, i = .int .i64 k ∧ k ≤ n ∧ Fil w.heap.size w.heap.size n L k wr ∧ Below w.heap.size w wr) (fun i _ => n - (intOf i).toNat)
  case atStart => exact ⟨0, rfl, Nat.zero_le _, HF.out, hB1⟩
  case round =>
    obtain ⟨k, rfl, hk, hf, hB⟩ := hrel
    by_cases hlt : k < n
    · obtain ⟨t, ht⟩ : ∃ t, ts[k]? = some t := ⟨_, List.getElem?_eq_getElem (by rw [HN.out]; exact hlt)⟩
      obtain ⟨b, o, rfl, c0, c1, c2, c3⟩ := (HA.out.below hB) k t ht
      have lb : b < wr.heap.size := World.block_lt_of_cell? _ _ c0
      have hx : L[k]? = some (teQ t) := by rw [← HL.out, List.getElem?_map, ht]; rfl
      have HX := Lib.hid hx
      have r1 := fun (w' : World) (h : TabK w') => kof_any (k := t.k) (s := t.v) (a := t.a) (z := t.z) (r := teQ t) rfl h
      have HB := Lib.hid hB
      have HT2 := Lib.hid ((HT.out.below hB).below (bel_alloc (Below.refl _ _) (.cells #[.int .i64 t.k, .string t.v, .int .i64 t.a, .int .i64 t.z] 25)))
      have HFI := Lib.hid hf
      generalize teQ t = x at *
      clear ht hx hf
      go_wp2_with fail
      refine (r1 _ ?_).mono ?_
      · exact HT2.out
      rintro e w2 ⟨rfl, hb2⟩
      have hb3 := bel_trans (bel_alloc (Below.refl _ _) _) hb2
      have hf3 := HFI.out.below hb3
      obtain ⟨⟨u, hu⟩, hfz⟩ := hf3.at hlt
      have HF3 := Lib.hid (hf3.next hlt HX.out)
      have HB3 := Lib.hid ((HB.out.trans (hb3.mono HB.out.size)).setCell (p := ⟨w.heap.size, k, none⟩) (Nat.le_refl _) (.int .i64 x))
      clear hf3 r1 hb2 hb3 hB
      go_wp2
      go_roundw
      case rel => exact ⟨k + 1, by go_num, by omega, HF3.out, HB3.out⟩
      case measure => simp [intOf]; omega
    · obtain rfl : k = n := by omega
      have HR := Lib.hid (hf.end HLN.out)
      clear hf
      go_wp2
      go_ret
      exact ⟨_, _, rfl, hB, HR.out, fun e => by cases e⟩
end Go.Proofs.YtpcijjdlppoblaaGreatDoor
