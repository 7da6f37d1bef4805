/- The document's own answers for layer 16 (copperplateref16): Show, Bits, Same; copperplateref07.Texts. -/
import Derived.Test.YtpcijjdlppoblaaGreatDoorMarC
import Derived.Test.YtpcijjdlppoblaaGreatDoorMarQ
import Derived.Test.YtpcijjdlppoblaaGreatDoorQuoR
import Derived.Test.YtpcijjdlppoblaaGreatDoorKinR
import Derived.Test.YtpcijjdlppoblaaGreatDoorYieS
namespace Go.Proofs.YtpcijjdlppoblaaGreatDoor
open Go.RowKit
set_option linter.unusedVariables false
set_option maxRecDepth 100000

set_option maxHeartbeats 1000000 in
/-- A row of bits held against one that has the same. -/
theorem bsame_eq {w : World} {n c d : Nat} {A A' : Option Addr} {l : List Bq} (ha : Br w A l) (hb : Br w A' l) (hn : l.length = n) (hz : n ≤ 1000000000) :
    Calls Tryz.prog 15 #[.slice A n c, .slice A' n d] w fun e w' => e = .returned (.bool true) ∧ Below w.heap.size w w' := by
  have HN := Lib.hid hn
  have HA := Lib.hid ha
  have HB := Lib.hid hb
  have t0 : ((n : Int) != (n : Int)) = false := by simp
  clear hn ha hb
  go_enter Tryz.func15, Tryz.ntmps15
  go_wp2
  go_loopw [5] (fun i wr => ∃ k : Nat, i = .int .i64 k ∧ k ≤ n ∧ Below w.heap.size w wr) (fun i _ => n - (intOf i).toNat)
  case atStart => exact ⟨0, rfl, Nat.zero_le _, Below.refl _ _⟩
  case round =>
    obtain ⟨k, rfl, hk, hB⟩ := hrel
    by_cases hlt : k < n
    · obtain ⟨x, hx⟩ : ∃ x, l[k]? = some x := ⟨_, List.getElem?_eq_getElem (by rw [HN.out]; exact hlt)⟩
      obtain ⟨b, o, rfl, c0, c1⟩ := (HA.out.below hB) k x hx
      obtain ⟨b', o', rfl, d0, d1⟩ := (HB.out.below hB) k x hx
      have t1 : (x.v.toList != x.v.toList) = false := by simp
      have t2 : (x.v.toList == x.v.toList) = true := by simp
      have t3 : (x.m != x.m) = false := by simp
      clear hx
      go_wp2
      go_quiet (fail)
      go_wp2
      go_roundw
      case rel => exact ⟨k + 1, by go_num, by omega, bel_drewNM hB _⟩
      case measure => simp [intOf]; omega
    · obtain rfl : k = n := by omega
      go_wp2
      go_ret
      exact ⟨rfl, hB⟩

theorem rsh_any {k a z : Int} {v S : ByteArray} {is : Bool} (hS : shV (shQ ⟨k, v, a, z⟩) = S) (hi : (shQ ⟨k, v, a, z⟩).isSome = is) (hz : v.size ≤ 100000) (w : World) :
    Calls Tryz.prog 14 #[.agg #[.int .i64 k, .string v, .int .i64 a, .int .i64 z]] w fun e w' => e = .returned (.tuple #[.string S, .bool is]) ∧ Below w.heap.size w w' := by
  have hb := Lib.hid (bel_alloc (Below.refl _ w) (.cells #[.int .i64 k, .string v, .int .i64 a, .int .i64 z] 25))
  by_cases h5 : k = 5
  · subst h5
    have r1 : ∀ w, Calls Tryz.prog 31 #[.string v] w fun e w' => e = .returned (.tuple #[.string S, .bool is]) ∧ Below w.heap.size w w' := fun w => by
      cases hq : qtA v.data.toList with
      | none =>
        have e1 : shQ ⟨5, v, a, z⟩ = none := by rw [shQ, if_pos rfl, hq]; rfl
        rw [e1] at hS hi
        subst hS hi
        exact rqno_any v hz w hq
      | some cs =>
        have e1 : shQ ⟨5, v, a, z⟩ = some (mkb (quo cs)) := by rw [shQ, if_pos rfl, hq]; rfl
        rw [e1] at hS hi
        subst hS hi
        exact rqyes_any v w hz cs hq
    clear hS hi hz
    go_enter Tryz.func14, Tryz.ntmps14
    go_wp2_with fail
    ((with_reducible refine (r1 _).mono ?_))
    rintro e w1 ⟨rfl, hb1⟩
    have HB1 := Lib.hid (bel_trans hb.out hb1)
    clear hb1
    go_wp2_with fail
    go_ret2
    exact ⟨rfl, HB1.out⟩
  · have e1 : v = S := by rw [← hS, shQ, if_neg h5]; rfl
    have e2 : true = is := by rw [← hi, shQ, if_neg h5]; rfl
    subst e1 e2
    have q1 : (k != 5) = true := by simpa using h5
    clear hS hi hz h5
    go_enter Tryz.func14, Tryz.ntmps14
    go_wp2_with fail
    go_ret2
    exact ⟨rfl, hb.out⟩

set_option maxHeartbeats 4000000 in
theorem rbits_yes {w : World} {A A2 : Option Addr} {n c n2 c2 mX m : Nat} {R L : List Int} {ts : List Tq} {X : List Sq} {O : Option (List Bq)} {o : Bool} {bs : List Bq}
    (hf : Ful R X true) (hL : ts.map teQ = L) (hr : derB true X L = true) (hO : btF X ts = O) (ho : O.isSome = o) (hbs : O.getD [] = bs) (hm : bs.length = m) (hmX : X.length = mX)
    (hl : R.length = n) (hn : n ≤ 1000) (hA : Ri w A R) (hl2 : ts.length = n2) (hn2 : n2 ≤ 1000) (hz : ∀ t ∈ ts, t.v.size ≤ 100000) (hA2 : Tr w A2 ts) :
    Calls Tryz.prog 12 #[.slice A n c, .slice A2 n2 c2] w fun e w' => BiE o m bs w e w' := by
  have hLn : L.length = n2 := by rw [← hL, List.length_map, hl2]
  have hmX2 : mX ≤ 20001 := by have := ful_len hf; omega
  have hpl : (plS X).length = ts.length := by
    rw [derB, Bool.and_eq_true, Bool.and_eq_true, decide_eq_true_eq] at hr
    rw [hr.1.2, hLn, hl2]
  have r1 := fun w h => rall_any (w := w) (A := A2) (c := c2) hL h hl2 (by omega)
  have r2 := fun w A2 c2 h h' => rderives_any (w := w) (A := A) (A2 := A2) (c := c) (c2 := c2) hf hr hl hn h hLn hn2 h'
  have r3 := fun w h => rfull_any (w := w) (A := A) (c := c) hf hmX hl hn h
  have HA := Lib.hid hA
  have HA2 := Lib.hid hA2
  have HZ := Lib.hid hz
  have HO := Lib.hid hO
  have Ho := Lib.hid ho
  have Hbs := Lib.hid hbs
  have Hm := Lib.hid hm
  have HX := Lib.hid hmX
  have HP := Lib.hid hpl
  have HL2 := Lib.hid hl2
  clear hA hA2 hz hO ho hbs hm hmX hl hl2 hpl hf hr hL hLn
  go_enter Tryz.func12, Tryz.ntmps12
  go_wp2_with fail
  ((with_reducible refine (r1 _ HA2.out).mono ?_))
  rintro e w1 ⟨B1, d1, rfl, hb1, hri1, -⟩
  have HB1 := Lib.hid hb1
  have HR1 := Lib.hid hri1
  clear hb1 hri1
  go_wp2_with fail
  ((with_reducible refine (r2 _ _ _ (HA.out.below HB1.out) HR1.out).mono ?_))
  rintro e w2 ⟨rfl, hb2⟩
  have HB2 := Lib.hid (bel_trans HB1.out hb2)
  clear hb2 HR1
  go_wp2_with fail
  ((with_reducible refine (r3 _ (HA.out.below HB2.out)).mono ?_))
  rintro e w3 ⟨B3, d3, rfl, hb3, hs3, -⟩
  have HB3 := Lib.hid (bel_trans HB2.out hb3)
  have HS3 := Lib.hid hs3
  clear hb3 hs3 r1 r2 r3
  go_wp2_with fail
  go_loopw [9, 10, 11] (fun v at' i wr => ∃ (k a : Nat) (pre : List Bq), i = .int .i64 k ∧ at' = .int .i64 a ∧ k ≤ mX ∧ pre.length = k ∧ a ≤ n2 ∧ Hid (Bn w3 pre v wr) ∧ Hid (O = (btF (X.drop k) (ts.drop a)).map (pre ++ ·)) ∧ Hid ((plS (X.drop k)).length + a = n2)) (fun _ _ i _ => mX - (intOf i).toNat)
  case atStart => exact ⟨0, 0, [], rfl, rfl, Nat.zero_le _, rfl, Nat.zero_le _, Lib.hid (Bn.start _), Lib.hid (by rw [List.drop_zero, List.drop_zero, HO.out]; cases O <;> simp), Lib.hid (by rw [List.drop_zero, HP.out, HL2.out]; rfl)⟩
  case round =>
    obtain ⟨k, a, pre, rfl, rfl, hk, hpre, ha, hm, ho, hp⟩ := hrel
    have hbel := Lib.hid hm.out.bel
    by_cases hlt : k < mX
    · obtain ⟨s, hs⟩ : ∃ s, X[k]? = some s := ⟨_, List.getElem?_eq_getElem (by rw [HX.out]; exact hlt)⟩
      obtain ⟨b, o', rfl, c0, c1⟩ := (HS3.out.below hbel.out) k s hs
      have lb := World.block_lt_of_cell? _ _ c0
      have hdr := Lib.hid (drop_consM hs)
      obtain ⟨sk, sn⟩ := s
      dsimp only at c0 c1
      by_cases h3 : sk = 3
      · subst h3
        have HM2 := Lib.hid (hm.out.alloc (.cells #[.int .i64 sn, .string ⟨#[]⟩] 47))
        clear hs
        go_wp2_with (at_builtin; refine app_bn rfl _ _ rfl _ pre ⟨sn, noV⟩ rfl HM2.out (ad := ⟨wr.heap.size, 0, none⟩) (c := 1) (by simp [go_sem]) (br_one (heap_alloc_new wr _)) (by omega) ?_)
        intro v' w5 h5
        have H5 := Lib.hid h5
        clear h5 hm HM2
        go_wp2
        go_roundw
        case rel =>
          refine ⟨k + 1, a, pre ++ [⟨sn, noV⟩], by go_num, rfl, by omega, by rw [List.length_append, hpre]; rfl, ha, H5, Lib.hid ?_, Lib.hid ?_⟩
          · refine map_map_app ?_
            rw [ho.out, hdr.out, btF_mark _ _ rfl]
          · have := hp.out
            rw [hdr.out, plS_mark _ rfl] at this
            exact this
        case measure => simp [intOf]; omega
      · have hpl : (plS (X.drop k)).length + a = n2 := hp.out
        rw [hdr.out, plS_cons _ h3, List.length_cons] at hpl
        have hal : a < n2 := by omega
        obtain ⟨t, ht⟩ : ∃ t, ts[a]? = some t := ⟨_, List.getElem?_eq_getElem (by rw [HL2.out]; exact hal)⟩
        obtain ⟨b2, o2, rfl, e0, e1, e2, e3⟩ := (HA2.out.below (bel_trans HB3.out hbel.out)) a t ht
        have lb2 := World.block_lt_of_cell? _ _ e0
        have hdt := Lib.hid (drop_consM ht)
        have q3 : (sk == 3) = false := by simpa using h3
        have hzt := HZ.out t (List.mem_of_getElem? ht)
        obtain ⟨S, hS⟩ : ∃ S, shV (shQ t) = S := ⟨_, rfl⟩
        obtain ⟨i, hi⟩ : ∃ i, (shQ t).isSome = i := ⟨_, rfl⟩
        have r5 := fun w => rsh_any (k := t.k) (a := t.a) (z := t.z) hS hi hzt w
        have HSS := Lib.hid hS
        have HSI := Lib.hid hi
        clear hS hi hzt hs ht
        go_wp2_with fail
        ((with_reducible refine (r5 _).mono ?_))
        rintro e w6 ⟨rfl, hb6⟩
        have HM6 := Lib.hid (hm.out.below hb6)
        clear hb6 r5
        cases i with
        | true =>
          have hsh : shQ t = some S := by
            have h1 := HSI.out
            have h2 := HSS.out
            cases hq : shQ t with
            | none => rw [hq] at h1; cases h1
            | some x => rw [hq] at h2; rw [← h2]; rfl
          have HSH := Lib.hid hsh
          have HM7 := Lib.hid (HM6.out.alloc (.cells #[.int .i64 0, .string S] 47))
          clear hsh HM6
          go_wp2_with (at_builtin; refine app_bn rfl _ _ rfl _ pre ⟨0, S⟩ rfl HM7.out (ad := ⟨w6.heap.size, 0, none⟩) (c := 1) (by simp [go_sem]) (br_one (heap_alloc_new w6 _)) (by omega) ?_)
          intro v' w7 h7
          have H7 := Lib.hid h7
          clear h7 hm HM7
          go_wp2
          go_roundw
          case rel =>
            refine ⟨k + 1, a + 1, pre ++ [⟨0, S⟩], by go_num, by go_num, by omega, by rw [List.length_append, hpre]; rfl, by omega, H7, Lib.hid ?_, Lib.hid (by omega)⟩
            refine map_map_app ?_
            rw [ho.out, hdr.out, hdt.out, btF_text _ _ h3 HSH.out]
          case measure => simp [intOf]; omega
        | false =>
          have hO : O = none := by
            have hq : shQ t = none := by
              have h1 := HSI.out
              cases hq : shQ t with
              | none => rfl
              | some x => rw [hq] at h1; cases h1
            rw [ho.out, hdr.out, hdt.out, btF_none _ _ h3 hq]; rfl
          have HOO := Lib.hid hO
          have HBB := Lib.hid (bel_trans HB3.out HM6.out.bel)
          clear hO
          go_wp2
          go_ret2
          have e1 := Ho.out
          have e2 := Hbs.out
          have e3 := Hm.out
          rw [HOO.out] at e1 e2
          subst e1
          subst e2
          subst e3
          exact ⟨none, 0, rfl, HBB.out, Br.nil _ _, fun _ => ⟨rfl, rfl⟩, Nat.le_refl _⟩
    · obtain rfl : k = mX := by omega
      have hx : X.drop k = [] := List.drop_eq_nil_of_le (by rw [HX.out]; exact Nat.le_refl _)
      have hO : O = some pre := by rw [ho.out, hx]; simp [btF]
      have HOO := Lib.hid hO
      have HBB := Lib.hid (bel_trans HB3.out hbel.out)
      have hrow := hm.out.own
      obtain ⟨A', n', c', rfl, hc'⟩ := own_slB hrow
      obtain ⟨e1, e2, e3⟩ := br_row hrow
      subst e1
      have H2 := Lib.hid e2
      have H3 := Lib.hid e3
      have e1 := Ho.out
      have e2' := Hbs.out
      have e3' := Hm.out
      rw [HOO.out] at e1 e2'
      have e4 : pre = bs := e2'
      subst e1
      subst e4
      subst e3'
      clear hx hO hrow e2 e3 hm hpre
      go_wp2
      go_ret2
      exact ⟨_, _, rfl, HBB.out, H2.out, H3.out, hc'⟩
theorem rbits_any {w : World} {A A2 : Option Addr} {n c n2 c2 m : Nat} {R L : List Int} {ts : List Tq} {X : List Sq} {O : Option (List Bq)} {is r o : Bool} {bs : List Bq}
    (hf : Ful R X is) (hL : ts.map teQ = L) (hr : derB is X L = r) (hO : biL r X ts = O) (ho : O.isSome = o) (hbs : O.getD [] = bs) (hm : bs.length = m)
    (hl : R.length = n) (hn : n ≤ 1000) (hA : Ri w A R) (hl2 : ts.length = n2) (hn2 : n2 ≤ 1000) (hz : ∀ t ∈ ts, t.v.size ≤ 100000) (hA2 : Tr w A2 ts) :
    Calls Tryz.prog 12 #[.slice A n c, .slice A2 n2 c2] w fun e w' => BiE o m bs w e w' := by
  cases r with
  | true =>
    obtain rfl : is = true := by rw [derB] at hr; cases is <;> simp_all
    exact rbits_yes hf hL hr hO ho hbs hm rfl hl hn hA hl2 hn2 hz hA2
  | false =>
    have hLn : L.length = n2 := by rw [← hL, List.length_map, hl2]
    have r1 := fun w h => rall_any (w := w) (A := A2) (c := c2) hL h hl2 (by omega)
    have r2 := fun w A2 c2 h h' => rderives_any (w := w) (A := A) (A2 := A2) (c := c) (c2 := c2) hf hr hl hn h hLn hn2 h'
    have HA := Lib.hid hA
    have HA2 := Lib.hid hA2
    obtain rfl : none = O := hO
    subst ho
    subst hbs
    subst hm
    clear hA hA2 hz hl hl2 hf hr hL hLn
    go_enter Tryz.func12, Tryz.ntmps12
    go_wp2_with fail
    ((with_reducible refine (r1 _ HA2.out).mono ?_))
    rintro e w1 ⟨B1, d1, rfl, hb1, hri1, -⟩
    have HB1 := Lib.hid hb1
    have HR1 := Lib.hid hri1
    clear hb1 hri1
    go_wp2_with fail
    ((with_reducible refine (r2 _ _ _ (HA.out.below HB1.out) HR1.out).mono ?_))
    rintro e w2 ⟨rfl, hb2⟩
    have HB2 := Lib.hid (bel_trans HB1.out hb2)
    clear hb2 HR1
    go_wp2_with fail
    go_ret2
    exact ⟨none, 0, rfl, HB2.out, Br.nil _ _, fun _ => ⟨rfl, rfl⟩, Nat.le_refl _⟩
end Go.Proofs.YtpcijjdlppoblaaGreatDoor
