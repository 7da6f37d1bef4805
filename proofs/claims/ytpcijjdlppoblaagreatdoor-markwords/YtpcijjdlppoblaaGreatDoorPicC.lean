/- Package pick: Empty, mayBeNothing. -/
import Derived.Test.YtpcijjdlppoblaaGreatDoorPicO
import Derived.Test.YtpcijjdlppoblaaGreatDoorRulD
import Derived.Laws.EntriesVeiled
namespace Go.Proofs.YtpcijjdlppoblaaGreatDoor
open Go.RowKit
set_option linter.unusedVariables false
set_option maxRecDepth 100000

/-- How a Get ends: variable v, the symbols L, n of them; is there a rule: b. -/
def GpE (v : Int) (n : Nat) (L : List Sq) (b : Bool) (w : World) (e : Ending) (w' : World) : Prop := ∃ A c, e = .returned (.tuple #[.agg #[.int .i64 v, .slice A n c], .bool b]) ∧ Below w.heap.size w w' ∧ Sr w' A L
/-- The variable of rule i; is there rule i? -/
def varI (i : Int) : Int := if 0 ≤ i ∧ i < 90 then (varR i.toNat : Nat) else 0
def isI (i : Int) : Bool := decide (0 ≤ i ∧ i < 90)
theorem symI_len (i : Int) : (symI i).length ≤ 10 := by
  unfold symI
  by_cases h : 0 ≤ i
  · rw [if_pos h, symR_len]
    by_cases h2 : i.toNat < 90
    · exact tlR_len _ h2
    · have e : tlR i.toNat = [] := by
        unfold tlR
        have : codR i.toNat = [] := by
          generalize i.toNat = n at h2
          obtain ⟨k, rfl⟩ : ∃ k, n = k + 90 := ⟨n - 90, by omega⟩
          rfl
        rw [this]; rfl
      rw [e]; exact Nat.zero_le _
  · rw [if_neg h]; exact Nat.zero_le _
theorem symI_over {i : Int} (h : i < 0 ∨ 90 ≤ i) : symI i = [] := by
  unfold symI
  rcases h with h | h
  · rw [if_neg (by omega)]
  · rw [if_pos (by omega)]
    obtain ⟨k, hk⟩ : ∃ k : Nat, i.toNat = k + 90 := ⟨i.toNat - 90, by omega⟩
    rw [hk]; rfl
theorem getp_any (i : Int) {n : Nat} {v : Int} {b : Bool} {L : List Sq} (hL : symI i = L) (hn : L.length = n) (hv : varI i = v) (hb : isI i = b) {w : World} (ht : TabR w) :
    Calls Tryz.prog 80 #[.int .i64 i] w fun e w' => GpE v n L b w e w' := by
  subst hL hn hv hb
  by_cases h : 0 ≤ i ∧ i < 90
  · obtain ⟨a, rfl⟩ := Int.eq_ofNat_of_zero_le h.1
    have ha : a < 90 := by omega
    refine (get_yes ha ht).mono ?_
    rintro e w' ⟨A, c, rfl, hb, hs, -⟩
    have e1 : symI (a : Int) = symR a := by unfold symI; rw [if_pos h.1]; rfl
    have e2 : varI (a : Int) = (varR a : Nat) := by unfold varI; rw [if_pos h]; rfl
    have e3 : isI (a : Int) = true := by unfold isI; exact decide_eq_true h
    exact ⟨A, c, by rw [e1, e2, e3], hb, by rw [e1]; exact hs⟩
  · have e1 : symI i = [] := symI_over (by omega)
    have e2 : varI i = 0 := by unfold varI; rw [if_neg h]
    have e3 : isI i = false := by unfold isI; exact decide_eq_false h
    refine (get_no (by omega) w).mono ?_
    rintro e w' ⟨rfl, hb⟩
    exact ⟨none, 0, by rw [e1, e2, e3]; rfl, hb, by rw [e1]; exact Sr.nil _ _⟩
/-- How an Of ends, its answer's length under a name of its own. -/
def OpE (m : Nat) (L : List Int) (w : World) (e : Ending) (w' : World) : Prop := ∃ A c, e = .returned (.slice A m c) ∧ Below w.heap.size w w' ∧ Ri w' A L
theorem ofp_any {w : World} (v : Int) {L : List Int} {n : Nat} (hL : ofR v = L) (hn : L.length = n) (ht : TabR w) : Calls Tryz.prog 102 #[.int .i64 v] w fun e w' => OpE n L w e w' :=
  (of_any v hL ht).mono (by rintro e w' ⟨A, c, rfl, hb, hs, -⟩; exact ⟨A, c, by rw [hn], hb, hs⟩)
theorem ofR_len (v : Int) : (ofR v).length ≤ 90 := ofN_len v 90

set_option maxHeartbeats 1000000 in
theorem empty_any {v r : Int} (hr : empR v = r) {w : World} (ht : TabR w) :
    Calls Tryz.prog 79 #[.int .i64 v] w fun e w' => e = .returned (.int .i64 r) ∧ Below w.heap.size w w' := by
  have HT := Lib.hid ht
  obtain ⟨O, hO⟩ : ∃ O, ofR v = O := ⟨_, rfl⟩
  obtain ⟨m, hm⟩ : ∃ n, O.length = n := ⟨_, rfl⟩
  have hm2 : m ≤ 90 := by rw [← hm, ← hO]; exact ofR_len v
  have r1 := fun {w} h => ofp_any (w := w) v hO hm h
  rw [empR, hO] at hr
  have HR := Lib.hid hr
  have HM := Lib.hid hm
  clear ht hO hr hm
  go_enter Tryz.func79, Tryz.ntmps79
  go_wp2_with fail
  ((with_reducible refine (r1 HT.out).mono ?_))
  rintro e w1 ⟨A, c, rfl, hb1, hs1⟩
  have HB1 := Lib.hid hb1
  have HS1 := Lib.hid hs1
  clear hb1 hs1 r1
  go_wp2_with fail
  go_loopw [10] (fun i wr => ∃ k : Nat, i = .int .i64 k ∧ k ≤ m ∧ Hid (fstN empB (O.drop k) = r) ∧ Below w1.heap.size w1 wr) (fun i _ => m - (intOf i).toNat)
  case atStart => exact ⟨0, rfl, Nat.zero_le _, by rw [List.drop_zero]; exact HR, Below.refl _ _⟩
  case round =>
    obtain ⟨k, rfl, hk, hf, hB⟩ := hrel
    by_cases hlt : k < m
    · obtain ⟨x, hx⟩ : ∃ x, O[k]? = some x := ⟨_, List.getElem?_eq_getElem (by rw [HM.out]; exact hlt)⟩
      obtain ⟨b, o, rfl, c0⟩ := (HS1.out.below hB) k x hx
      have hf' := hf.out
      rw [fstN_drop hx] at hf'
      have q1 : (k : Int) < (m : Int) := by omega
      obtain ⟨L, hL⟩ : ∃ L, symI x = L := ⟨_, rfl⟩
      obtain ⟨n, hn⟩ : ∃ n, L.length = n := ⟨_, rfl⟩
      obtain ⟨vv, hv⟩ : ∃ v, varI x = v := ⟨_, rfl⟩
      obtain ⟨bb, hbb⟩ : ∃ v, isI x = v := ⟨_, rfl⟩
      have r2 := fun {w} h => getp_any x hL hn hv hbb (w := w) h
      have he : empB x = (n == 0) := by unfold empB; rw [hL, hn]
      rw [he] at hf'
      have HTr := Lib.hid (HT.out.below (bel_trans HB1.out hB))
      have HBr := Lib.hid (bel_trans HB1.out hB)
      have HBB := Lib.hid hB
      clear hx hL hn hv hbb he hf hB
      by_cases h0 : n = 0
      · subst h0
        rw [if_pos (by rfl)] at hf'
        have HF := Lib.hid hf'
        clear hf'
        go_wp2_with fail
        ((with_reducible refine (r2 HTr.out).mono ?_))
        rintro e w2 ⟨B, d, rfl, hb2, hs2⟩
        have HB2 := Lib.hid (bel_trans HBr.out hb2)
        clear hb2 r2 hs2
        go_wp2_with fail
        go_ret
        exact ⟨by rw [HF.out]; rfl, bel_alloc HB2.out _⟩
      · have q2 : ((n : Int) == 0) = false := by simpa using h0
        have q3 : (n == 0) = false := by simpa using h0
        rw [q3, if_neg (by simp)] at hf'
        have HF := Lib.hid hf'
        clear hf' h0 q3
        go_wp2_with fail
        ((with_reducible refine (r2 HTr.out).mono ?_))
        rintro e w2 ⟨B, d, rfl, hb2, hs2⟩
        have HB2 := Lib.hid (bel_trans HBB.out hb2)
        clear hb2 r2 hs2
        go_wp2_with fail
        go_roundw
        case rel => exact ⟨k + 1, by go_num, by omega, HF, bel_alloc HB2.out _⟩
        case measure => simp [intOf]; omega
    · obtain rfl : k = m := by omega
      have hf' := hf.out
      rw [List.drop_eq_nil_of_le (by rw [HM.out]; exact Nat.le_refl _), fstN] at hf'
      have HF := Lib.hid hf'
      have HBr := Lib.hid (bel_trans HB1.out hB)
      clear hf hf' hB
      go_wp2_with fail
      go_ret
      exact ⟨by rw [← HF.out]; rfl, HBr.out⟩
set_option maxHeartbeats 1000000 in
theorem may_any {t : Sq} {r : Bool} (hr : mayN t = r) {w : World} (ht : TabR w) :
    Calls Tryz.prog 116 #[.agg #[.int .i64 t.k, .int .i64 t.n]] w fun e w' => e = .returned (.bool r) ∧ Below w.heap.size w w' := by
  obtain ⟨k, n⟩ := t
  have hbo := bel_alloc (Below.refl _ w) (.cells #[.int .i64 k, .int .i64 n] 59)
  have HT := Lib.hid (ht.below hbo)
  have HBo := Lib.hid hbo
  by_cases h1 : k = 1
  · subst h1
    obtain ⟨x, hx⟩ : ∃ x, empR n = x := ⟨_, rfl⟩
    have hr' : decide (0 ≤ x) = r := by rw [← hr, ← hx]; rfl
    have r1 := fun {w} h => empty_any (w := w) hx h
    have HR := Lib.hid hr'
    clear hr hr' hx ht hbo
    go_enter Tryz.func116, Tryz.ntmps116
    go_wp2_with fail
    ((with_reducible refine (r1 HT.out).mono ?_))
    rintro e w2 ⟨rfl, hb2⟩
    have HB2 := Lib.hid (bel_trans HBo.out hb2)
    clear hb2 r1
    go_wp2_with fail
    go_ret
    exact ⟨by rw [← HR.out]; rfl, HB2.out⟩
  · have hr' : r = false := by rw [← hr]; simp [mayN, h1]
    subst hr'
    have q1 : (k == 1) = false := by simpa using h1
    clear hr h1 ht hbo
    go_enter Tryz.func116, Tryz.ntmps116
    go_wp2_with fail
    go_ret
    exact ⟨rfl, HBo.out⟩
end Go.Proofs.YtpcijjdlppoblaaGreatDoor

/- Package pick: the closure that asks itself; beginning, begins. -/
namespace Go.Proofs.YtpcijjdlppoblaaGreatDoor
open Go.RowKit
set_option linter.unusedVariables false
set_option maxRecDepth 100000

/-- The closure's two boxes. -/
structure Fw (te : Int) (bt bf : Nat) (w : World) : Prop where
  t : w.cell? ⟨bt, 0, none⟩ = some (.int .i64 te)
  f : w.cell? ⟨bf, 0, none⟩ = some (.func (.func 94) #[] #[.pointer (some ⟨bt, 0, none⟩), .pointer (some ⟨bf, 0, none⟩)])
theorem Fw.below {te : Int} {bt bf : Nat} {w w' : World} (h : Fw te bt bf w) (b : Below w.heap.size w w') : Fw te bt bf w' := ⟨bel_cell b h.t, bel_cell b h.f⟩
/-- How fitting ends. -/
def FiE (te : Int) (w : World) (e : Ending) (w' : World) : Prop := ∃ bt bf : Nat, e = .returned (.func (.func 94) #[] #[.pointer (some ⟨bt, 0, none⟩), .pointer (some ⟨bf, 0, none⟩)]) ∧ Below w.heap.size w w' ∧ Fw te bt bf w'
set_option maxHeartbeats 400000 in
theorem fitting_any (te : Int) (w : World) : Calls Tryz.prog 62 #[.int .i64 te] w fun e w' => FiE te w e w' := by
  have hmf : ∀ (fn : Fn) (first cap : Array Value) (w : World), (Instr.makeFunc fn first cap).run Tryz.prog w = .ok (.func fn first cap) w := fun _ _ _ _ => rfl
  go_enter Tryz.func62, Tryz.ntmps62
  go_wp2_with fail
  go_ret
  refine ⟨w.heap.size, w.heap.size + 1, rfl, ?_, ?_⟩
  · go_grown
  · constructor <;> simp [go_sem]

/-- What the closure answers, asked of symbols that want d questions at most. -/
def AnsF (d : Nat) (te : Int) (bt bf : Nat) : Prop := ∀ (t : Sq) (w : World), depB d t = true → TabR w → Fw te bt bf w →
  Calls Tryz.prog 94 #[.agg #[.int .i64 t.k, .int .i64 t.n], .pointer (some ⟨bt, 0, none⟩), .pointer (some ⟨bf, 0, none⟩)] w fun e w' => e = .returned (.bool (fitK te t)) ∧ Below w.heap.size w w'
set_option maxHeartbeats 1000000 in
theorem begins_of {d : Nat} {te : Int} {bt bf : Nat} (hd : AnsF d te bt bf) {i : Int} (hi : okS (depB d) (plR i) = true) {w : World} (ht : TabR w) (hf : Fw te bt bf w) :
    Calls Tryz.prog 103 #[.int .i64 i, .func (.func 94) #[] #[.pointer (some ⟨bt, 0, none⟩), .pointer (some ⟨bf, 0, none⟩)]] w fun e w' => e = .returned (.bool (begK te i)) ∧ Below w.heap.size w w' := by
  obtain ⟨r, hr⟩ : ∃ r, begK te i = r := ⟨_, rfl⟩
  rw [hr]
  have HD := Lib.hid hd
  obtain ⟨L, hL⟩ : ∃ L, symI i = L := ⟨_, rfl⟩
  obtain ⟨n, hn⟩ : ∃ n, L.length = n := ⟨_, rfl⟩
  obtain ⟨vv, hv⟩ : ∃ v, varI i = v := ⟨_, rfl⟩
  obtain ⟨bb, hbb⟩ : ∃ v, isI i = v := ⟨_, rfl⟩
  have hn10 : n ≤ 10 := by rw [← hn, ← hL]; exact symI_len i
  have r1 := getp_any i hL hn hv hbb ht
  obtain ⟨P, hP⟩ : ∃ P, plS L = P := ⟨_, rfl⟩
  obtain ⟨m, hm⟩ : ∃ m, P.length = m := ⟨_, rfl⟩
  have hm10 : m ≤ 10 := by rw [← hm, ← hP]; exact Nat.le_trans (plS_le L) (by omega)
  have r2 := fun {w A c} h => plain_as (w := w) (A := A) (c := c) hP hm h hn (by omega)
  have hpl : plR i = P := by rw [plR, hL, hP]
  rw [begK, hpl] at hr
  rw [hpl] at hi
  have HR := Lib.hid hr
  have HI := Lib.hid hi
  have HM := Lib.hid hm
  have HT := Lib.hid ht
  have HF := Lib.hid hf
  clear hd hL hn hv hbb hP hm hpl hr hi ht hf
  go_enter Tryz.func103, Tryz.ntmps103
  go_wp2_with fail
  go_step3
  go_wp2_with fail
  ((with_reducible refine r1.mono ?_))
  rintro e w1 ⟨A, c, rfl, hb1, hs1⟩
  have HS1 := Lib.hid (hs1.below (bel_alloc (Below.refl _ _) (.cells #[.int .i64 vv, .slice A n c] 78)))
  have HB1 := Lib.hid (bel_alloc hb1 (.cells #[.int .i64 vv, .slice A n c] 78))
  clear hb1 hs1 r1
  go_wp2_with fail
  go_step3
  go_wp2_with fail
  ((with_reducible refine (r2 HS1.out).mono ?_))
  rintro e w2 ⟨B, c2, rfl, hb2, hs2, -⟩
  have HS2 := Lib.hid hs2
  have HB2 := Lib.hid (bel_trans HB1.out hb2)
  clear hb2 hs2 r2 HS1
  go_wp2_with fail
  go_loopw [18] (fun j wr => ∃ k : Nat, j = .int .i64 k ∧ k ≤ m ∧ Hid (goB (fitK te) (P.drop k) = r ∧ okS (depB d) (P.drop k) = true) ∧ Below w2.heap.size w2 wr) (fun j _ => m - (intOf j).toNat)
  case atStart => exact ⟨0, rfl, Nat.zero_le _, Lib.hid (by rw [List.drop_zero]; exact ⟨HR.out, HI.out⟩), Below.refl _ _⟩
  case round =>
    obtain ⟨k, rfl, hk, hg, hB⟩ := hrel
    by_cases hlt : k < m
    · obtain ⟨t, htt⟩ : ∃ t, P[k]? = some t := ⟨_, List.getElem?_eq_getElem (by rw [HM.out]; exact hlt)⟩
      obtain ⟨b, o, rfl, c0, c1⟩ := (HS2.out.below hB) k t htt
      obtain ⟨hg1, hg2⟩ := hg.out
      rw [goB_drop htt] at hg1
      rw [okS_drop htt, Bool.and_eq_true] at hg2
      obtain ⟨hdt, hg2⟩ := hg2
      have q1 : (k : Int) < (m : Int) := by omega
      have hbo := bel_alloc (bel_trans HB2.out hB) (.cells #[.int .i64 t.k, .int .i64 t.n] 59)
      have HB3 := Lib.hid hbo
      have HBB := Lib.hid (bel_alloc hB (.cells #[.int .i64 t.k, .int .i64 t.n] 59))
      have r3 := HD.out t (wr.alloc (.cells #[.int .i64 t.k, .int .i64 t.n] 59)) hdt (HT.out.below hbo) (HF.out.below hbo)
      obtain ⟨x, hx⟩ : ∃ x, fitK te t = x := ⟨_, rfl⟩
      obtain ⟨y, hy⟩ : ∃ y, mayN t = y := ⟨_, rfl⟩
      have r4 := fun {w} h => may_any (w := w) hy h
      rw [hx] at r3
      rw [hx, hy] at hg1
      rw [hy] at hg2
      have hc0 : (wr.alloc (.cells #[.int .i64 t.k, .int .i64 t.n] 59)).cell? ⟨wr.heap.size, 0, none⟩ = some (.int .i64 t.k) := by simp [go_sem]
      have hc1 : (wr.alloc (.cells #[.int .i64 t.k, .int .i64 t.n] 59)).cell? ⟨wr.heap.size, 1, none⟩ = some (.int .i64 t.n) := by simp [go_sem]
      have HC0 := Lib.hid hc0
      have HC1 := Lib.hid hc1
      have HG1 := Lib.hid hg1
      have HG2 := Lib.hid hg2
      clear htt hg hg1 hg2 hdt hbo hx hy hc0 hc1 hB
      cases x
      · go_wp2_with fail
        ((with_reducible refine r3.mono ?_))
        rintro e w3 ⟨rfl, hb3⟩
        have d0 := bel_cell hb3 HC0.out
        have d1 := bel_cell hb3 HC1.out
        have HB4 := Lib.hid (bel_trans HB3.out hb3)
        have HBB4 := Lib.hid (bel_trans HBB.out hb3)
        have lt3 := World.block_lt_of_cell? _ _ d0
        have HTT := Lib.hid (HT.out.below HB4.out)
        clear hb3 r3
        go_wp2_with fail
        ((with_reducible refine (r4 HTT.out).mono ?_))
        rintro e w4 ⟨rfl, hb4⟩
        have HB5 := Lib.hid (bel_trans HB4.out hb4)
        have HBB5 := Lib.hid (bel_trans HBB4.out hb4)
        clear hb4 r4
        cases y
        · have hr2 : false = r := by have := HG1.out; simpa using this
          subst hr2
          go_wp2_with fail
          (try rw [Exit.noGoto_ret])
          go_ret
          exact ⟨rfl, HB5.out⟩
        · go_wp2_with fail
          go_roundw
          case rel => exact ⟨k + 1, by go_num, by omega, Lib.hid ⟨by have := HG1.out; simpa using this, by have := HG2.out; simpa using this⟩, HBB5.out⟩
          case measure => simp [intOf]; omega
      · have hr2 : true = r := by have := HG1.out; simpa using this
        subst hr2
        go_wp2_with fail
        ((with_reducible refine r3.mono ?_))
        rintro e w3 ⟨rfl, hb3⟩
        have HB4 := Lib.hid (bel_trans HB3.out hb3)
        clear hb3 r3
        go_wp2_with fail
        (try rw [Exit.noGoto_ret])
        go_ret
        exact ⟨rfl, HB4.out⟩
    · obtain rfl : k = m := by omega
      have hg' := hg.out.1
      rw [List.drop_eq_nil_of_le (by rw [HM.out]; exact Nat.le_refl _), goB] at hg'
      subst hg'
      have HB3 := Lib.hid (bel_trans HB2.out hB)
      clear hg hB
      go_wp2_with fail
      (try rw [Exit.noGoto_ret])
      go_ret
      exact ⟨rfl, HB3.out⟩
/-- What beginning wants of begins. -/
def AnsB (te v : Int) (bt bf : Nat) : Prop := ∀ (i : Int) (w : World), i ∈ ofR v → TabR w → Fw te bt bf w →
  Calls Tryz.prog 103 #[.int .i64 i, .func (.func 94) #[] #[.pointer (some ⟨bt, 0, none⟩), .pointer (some ⟨bf, 0, none⟩)]] w fun e w' => e = .returned (.bool (begK te i)) ∧ Below w.heap.size w w'
set_option maxHeartbeats 1000000 in
theorem beginning_of {te v : Int} {bt bf : Nat} (hd : AnsB te v bt bf) {r : Int} (hr : begN te v = r) {w : World} (ht : TabR w) (hf : Fw te bt bf w) :
    Calls Tryz.prog 78 #[.int .i64 v, .func (.func 94) #[] #[.pointer (some ⟨bt, 0, none⟩), .pointer (some ⟨bf, 0, none⟩)]] w fun e w' => e = .returned (.int .i64 r) ∧ Below w.heap.size w w' := by
  have HD := Lib.hid hd
  have HT := Lib.hid ht
  have HF := Lib.hid hf
  obtain ⟨O, hO⟩ : ∃ O, ofR v = O := ⟨_, rfl⟩
  obtain ⟨m, hm⟩ : ∃ n, O.length = n := ⟨_, rfl⟩
  have hm2 : m ≤ 90 := by rw [← hm, ← hO]; exact ofR_len v
  have r1 := ofp_any v hO hm ht
  rw [begN, hO] at hr
  have HR := Lib.hid hr
  have HM := Lib.hid hm
  have HO := Lib.hid hO
  clear ht hf hd hO hr hm
  go_enter Tryz.func78, Tryz.ntmps78
  go_wp2_with fail
  ((with_reducible refine r1.mono ?_))
  rintro e w1 ⟨A, c, rfl, hb1, hs1⟩
  have HB1 := Lib.hid hb1
  have HS1 := Lib.hid hs1
  clear hb1 hs1 r1
  go_wp2_with fail
  go_loopw [10] (fun i wr => ∃ k : Nat, i = .int .i64 k ∧ k ≤ m ∧ Hid (fstN (begK te) (O.drop k) = r) ∧ Below w1.heap.size w1 wr) (fun i _ => m - (intOf i).toNat)
  case atStart => exact ⟨0, rfl, Nat.zero_le _, by rw [List.drop_zero]; exact HR, Below.refl _ _⟩
  case round =>
    obtain ⟨k, rfl, hk, hg, hB⟩ := hrel
    by_cases hlt : k < m
    · obtain ⟨x, hx⟩ : ∃ x, O[k]? = some x := ⟨_, List.getElem?_eq_getElem (by rw [HM.out]; exact hlt)⟩
      obtain ⟨b, o, rfl, c0⟩ := (HS1.out.below hB) k x hx
      have hg' := hg.out
      rw [fstN_drop hx] at hg'
      have q1 : (k : Int) < (m : Int) := by omega
      have hbo := bel_trans HB1.out hB
      have HBr := Lib.hid hbo
      have HBB := Lib.hid hB
      have r2 := HD.out x wr (by rw [HO.out]; exact List.mem_of_getElem? hx) (HT.out.below hbo) (HF.out.below hbo)
      obtain ⟨y, hy⟩ : ∃ y, begK te x = y := ⟨_, rfl⟩
      rw [hy] at r2
      rw [hy] at hg'
      clear hx hg hbo hy hB
      cases y
      · rw [if_neg (by simp)] at hg'
        have HG := Lib.hid hg'
        clear hg'
        go_wp2_with fail
        ((with_reducible refine r2.mono ?_))
        rintro e w2 ⟨rfl, hb2⟩
        have HB2 := Lib.hid (bel_trans HBB.out hb2)
        clear hb2 r2
        go_wp2_with fail
        go_roundw
        case rel => exact ⟨k + 1, by go_num, by omega, HG, HB2.out⟩
        case measure => simp [intOf]; omega
      · rw [if_pos rfl] at hg'
        have HG := Lib.hid hg'
        clear hg'
        go_wp2_with fail
        ((with_reducible refine r2.mono ?_))
        rintro e w2 ⟨rfl, hb2⟩
        have HB2 := Lib.hid (bel_trans HBr.out hb2)
        clear hb2 r2
        go_wp2_with fail
        go_ret
        exact ⟨by rw [HG.out]; rfl, HB2.out⟩
    · obtain rfl : k = m := by omega
      have hg' := hg.out
      rw [List.drop_eq_nil_of_le (by rw [HM.out]; exact Nat.le_refl _), fstN] at hg'
      have HG := Lib.hid hg'
      have HBr := Lib.hid (bel_trans HB1.out hB)
      clear hg hg' hB
      go_wp2_with fail
      go_ret
      exact ⟨by rw [← HG.out]; rfl, HBr.out⟩
set_option maxHeartbeats 1000000 in
/-- The closure, asked of what is no variable's symbol. -/
theorem fits_leaf {te : Int} {bt bf : Nat} {t : Sq} (hk : t.k ≠ 1) {w : World} (hf : Fw te bt bf w) :
    Calls Tryz.prog 94 #[.agg #[.int .i64 t.k, .int .i64 t.n], .pointer (some ⟨bt, 0, none⟩), .pointer (some ⟨bf, 0, none⟩)] w fun e w' => e = .returned (.bool (fitK te t)) ∧ Below w.heap.size w w' := by
  obtain ⟨k, n⟩ := t
  change k ≠ 1 at hk
  have hbo := bel_alloc (Below.refl _ w) (.cells #[.int .i64 k, .int .i64 n] 59)
  obtain ⟨c0, c1⟩ := hf
  have l0 := World.block_lt_of_cell? _ _ c0
  have l1 := World.block_lt_of_cell? _ _ c1
  have HBo := Lib.hid hbo
  clear hbo
  by_cases h0 : k = 0
  · subst h0
    rw [fitK_term]
    clear hk
    by_cases hn : n = te
    · subst hn
      by_cases hz : n = 0
      · subst hz
        go_enter Tryz.func94, Tryz.ntmps94
        go_wp2
        (try go_quiet (fail))
        (try go_wp2)
        go_ret
        exact ⟨by simp, by go_grown⟩
      · have q2 : (n != 0) = true := by simpa using hz
        have q3 : (n == 0) = false := by simpa using hz
        clear hz
        go_enter Tryz.func94, Tryz.ntmps94
        go_wp2
        (try go_quiet (fail))
        (try go_wp2)
        go_ret
        exact ⟨by first | (simp; done) | (simp [q2]; done) | (simp [q3]; done), by go_grown⟩
    · have q2 : (n == te) = false := by simpa using hn
      rw [q2]
      clear hn
      go_enter Tryz.func94, Tryz.ntmps94
      go_wp2
      (try go_quiet (fail))
      (try go_wp2)
      go_ret
      exact ⟨by first | (simp; done) | (simp [q2]; done), by go_grown⟩
  · have q0 : (k == 0) = false := by simpa using h0
    have q1 : (k == 1) = false := by simpa using hk
    by_cases h2 : k = 2
    · subst h2
      rw [fitK_class]
      clear hk h0 q0 q1
      obtain ⟨x, hx⟩ : ∃ x, inK n te = x := ⟨_, rfl⟩
      have r1 := in_any hx
      rw [hx]
      clear hx
      go_enter Tryz.func94, Tryz.ntmps94
      go_wp2_with fail
      ((with_reducible refine (r1 _).mono ?_))
      rintro e w2 ⟨rfl, rfl⟩
      go_wp2_with fail
      go_ret
      exact ⟨rfl, HBo.out⟩
    · have q2 : (k == 2) = false := by simpa using h2
      rw [fitK_other te h0 hk h2]
      clear h0 hk h2
      go_enter Tryz.func94, Tryz.ntmps94
      go_wp2_with fail
      go_ret
      exact ⟨rfl, HBo.out⟩
end Go.Proofs.YtpcijjdlppoblaaGreatDoor

/- Package pick: Fits, First, Begins, Pick. -/
namespace Go.Proofs.YtpcijjdlppoblaaGreatDoor
open Go.RowKit
set_option linter.unusedVariables false
set_option maxRecDepth 100000

set_option maxHeartbeats 1000000 in
/-- The closure, asked of a variable's symbol. -/
theorem fits_var {te n : Int} {bt bf : Nat} (hd : AnsB te n bt bf) {w : World} (ht : TabR w) (hf : Fw te bt bf w) :
    Calls Tryz.prog 94 #[.agg #[.int .i64 1, .int .i64 n], .pointer (some ⟨bt, 0, none⟩), .pointer (some ⟨bf, 0, none⟩)] w fun e w' => e = .returned (.bool (fstK te n)) ∧ Below w.heap.size w w' := by
  obtain ⟨r, hr⟩ : ∃ r, begN te n = r := ⟨_, rfl⟩
  have hq : decide (0 ≤ r) = fstK te n := by rw [← hr]; exact begN_ge te n
  have hbo := bel_alloc (Below.refl _ w) (.cells #[.int .i64 1, .int .i64 n] 59)
  have r1 := beginning_of hd hr (ht.below hbo) (hf.below hbo)
  rw [← hq]
  obtain ⟨c0, c1⟩ := hf
  have l0 := World.block_lt_of_cell? _ _ c0
  have l1 := World.block_lt_of_cell? _ _ c1
  have HBo := Lib.hid hbo
  clear hbo ht hd hr hq
  go_enter Tryz.func94, Tryz.ntmps94
  go_wp2_with fail
  ((with_reducible refine r1.mono ?_))
  rintro e w2 ⟨rfl, hb2⟩
  have HB2 := Lib.hid (bel_trans HBo.out hb2)
  clear hb2 r1
  go_wp2_with fail
  go_ret
  exact ⟨rfl, HB2.out⟩
theorem ans_all (te : Int) (bt bf : Nat) : ∀ d, AnsF d te bt bf
  | 0 => fun t w hd ht hf => fits_leaf (by simpa [depB] using hd) hf
  | d + 1 => fun t w hd ht hf => by
    by_cases h1 : t.k = 1
    · obtain ⟨k, n⟩ := t
      change k = 1 at h1
      subst h1
      rw [fitK_var]
      refine fits_var (fun i w' hi ht' hf' => begins_of (ans_all te bt bf d) ?_ ht' hf') ht hf
      have : (ofR n).all (fun i => okS (depB d) (plR i)) = true := by simpa [depB] using hd
      exact List.all_eq_true.1 this i hi
    · exact fits_leaf h1 hf
theorem okS_all (p : Sq → Bool) (h : ∀ t, p t = true) : ∀ l, okS p l = true
  | [] => rfl
  | t :: l => by rw [okS, h t, okS_all p h l]; simp
theorem ansB_all (te : Int) (bt bf : Nat) (v : Int) : AnsB te v bt bf := fun i w hi ht hf => begins_of (ans_all te bt bf 6) (okS_all _ dep_all _) ht hf
set_option maxHeartbeats 1000000 in
theorem pfits_any {te : Int} {t : Sq} {r : Bool} (hr : fitK te t = r) {w : World} (ht : TabR w) :
    Calls Tryz.prog 40 #[.agg #[.int .i64 t.k, .int .i64 t.n], .int .i64 te] w fun e w' => e = .returned (.bool r) ∧ Below w.heap.size w w' := by
  have r1 := fun bt bf {w} h h' => ans_all te bt bf 6 t w (dep_all t) h h'
  rw [hr] at r1
  have hbo := bel_alloc (Below.refl _ w) (.cells #[.int .i64 t.k, .int .i64 t.n] 59)
  have c0 : (w.alloc (.cells #[.int .i64 t.k, .int .i64 t.n] 59)).cell? ⟨w.heap.size, 0, none⟩ = some (.int .i64 t.k) := by simp [go_sem]
  have c1 : (w.alloc (.cells #[.int .i64 t.k, .int .i64 t.n] 59)).cell? ⟨w.heap.size, 1, none⟩ = some (.int .i64 t.n) := by simp [go_sem]
  have HC0 := Lib.hid c0
  have HC1 := Lib.hid c1
  have HT := Lib.hid ht
  have HBo := Lib.hid hbo
  clear ht hbo c0 c1 hr
  go_enter Tryz.func40, Tryz.ntmps40
  go_wp2_with fail
  go_region_held3 (fun w' => w'.cell? ⟨w.heap.size, 0, none⟩ = some (.int .i64 t.k) ∧ w'.cell? ⟨w.heap.size, 1, none⟩ = some (.int .i64 t.n))
    (first | (exact ⟨HC0.out, HC1.out⟩) | (go_split_ands; refine ⟨?_, ?_⟩ <;> exact bel_cell hq (by assumption)))
    (first
      | (go_at_call 62; ((with_reducible refine (fitting_any te _).mono ?_)); rintro e w2 ⟨bt, bf, rfl, hq, hf2⟩; have hq2 := hq)
      | (go_at_call 94; ((with_reducible refine (r1 bt bf (HT.out.below (bel_trans HBo.out.drew hq2)) hf2).mono ?_)); rintro e w3 ⟨rfl, hq⟩; have hq3 := hq))
  go_wp2
  go_ret
  exact ⟨rfl, bel_trans (bel_trans HBo.out.drew hq2) hq3⟩
set_option maxHeartbeats 1000000 in
theorem ppick_any {v te r : Int} (hr : pickK te v = r) {w : World} (ht : TabR w) :
    Calls Tryz.prog 52 #[.int .i64 v, .int .i64 te] w fun e w' => e = .returned (.int .i64 r) ∧ Below w.heap.size w w' := by
  obtain ⟨x, hx⟩ : ∃ x, begN te v = x := ⟨_, rfl⟩
  have r1 := fun bt bf {w} h h' => beginning_of (ansB_all te bt bf v) hx (w := w) h h'
  have HT := Lib.hid ht
  rw [pickK, hx] at hr
  clear ht hx
  by_cases h0 : 0 ≤ x
  · rw [if_pos h0] at hr
    subst hr
    go_enter Tryz.func52, Tryz.ntmps52
    go_wp2_with fail
    ((with_reducible refine (fitting_any te _).mono ?_))
    rintro e w2 ⟨bt, bf, rfl, hb2, hf2⟩
    have HB2 := Lib.hid hb2
    have r2 := r1 bt bf (HT.out.below hb2) hf2
    clear hb2 hf2 r1
    go_wp2_with fail
    ((with_reducible refine r2.mono ?_))
    rintro e w3 ⟨rfl, hb3⟩
    have HB3 := Lib.hid (bel_trans HB2.out hb3)
    clear hb3 r2
    go_wp2_with fail
    go_ret
    exact ⟨rfl, HB3.out⟩
  · rw [if_neg h0] at hr
    have r3 := fun {w} h => empty_any (w := w) hr h
    clear hr
    go_enter Tryz.func52, Tryz.ntmps52
    go_wp2_with fail
    ((with_reducible refine (fitting_any te _).mono ?_))
    rintro e w2 ⟨bt, bf, rfl, hb2, hf2⟩
    have HB2 := Lib.hid hb2
    have r2 := r1 bt bf (HT.out.below hb2) hf2
    clear hb2 hf2 r1
    go_wp2_with fail
    ((with_reducible refine r2.mono ?_))
    rintro e w3 ⟨rfl, hb3⟩
    have HB3 := Lib.hid (bel_trans HB2.out hb3)
    have HTT := Lib.hid (HT.out.below HB3.out)
    clear hb3 r2
    go_wp2_with fail
    ((with_reducible refine (r3 HTT.out).mono ?_))
    rintro e w4 ⟨rfl, hb4⟩
    have HB4 := Lib.hid (bel_trans HB3.out hb4)
    clear hb4 r3
    go_wp2_with fail
    go_ret
    exact ⟨rfl, HB4.out⟩
end Go.Proofs.YtpcijjdlppoblaaGreatDoor
