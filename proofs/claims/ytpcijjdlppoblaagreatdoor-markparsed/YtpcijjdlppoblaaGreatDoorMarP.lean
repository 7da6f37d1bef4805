/- The law MarkParsed: its walk. -/
import Derived.Test.YtpcijjdlppoblaaGreatDoorMarE
namespace Go.Proofs.YtpcijjdlppoblaaGreatDoor
open Go.RowKit
set_option linter.unusedVariables false
set_option maxRecDepth 100000

theorem outZ_ge {L : List Int} {z : Nat} {f : Bool} (h : outZ L z f ≠ -1) : 0 ≤ outZ L z f := by
  rcases outZ_or L z f with e | e
  · exact absurd e h
  · omega
theorem allSh_take {ts : List Tq} {k : Nat} {t : Tq} (h : ts[k]? = some t) : allSh (ts.take (k + 1)) = (allSh (ts.take k) && (shQ t).isSome) := by
  rw [List.take_add_one, h, Option.toList_some, allSh, allSh, List.all_append, List.all_cons, List.all_nil, Bool.and_true]
set_option maxHeartbeats 8000000 in
theorem parsed_law {w : World} {A2 : Option Addr} {n2 c2 : Nat} {ts : List Tq} (k : Int) (hl2 : ts.length = n2) (hc2 : n2 ≤ c2) (hn2 : n2 ≤ 9223372036854775807) (hv2 : ∀ t ∈ ts, t.v.size ≤ 9223372036854775807) (hA2 : Tr w A2 ts) (ht : TabR w) (hk : TabK w) (hq : Tab w) :
    Calls Tryz.prog 4 #[.slice A2 n2 c2, .int .i64 k] w fun e w' => e = .returned (.bool true) ∧ Below w.heap.size w w' := by
  have HTR := Lib.hid ht
  have HTK := Lib.hid hk
  have HTQ := Lib.hid hq
  have HA2 := Lib.hid hA2
  have HL2 := Lib.hid hl2
  have HV2 := Lib.hid hv2
  have r1 := fun w h => fewF_any (w := w) (A := A2) (c := c2) h HL2.out hn2 HV2.out
  obtain ⟨L, hL⟩ : ∃ L, ts.map teQ = L := ⟨_, rfl⟩
  obtain ⟨P, zp, f, hp⟩ := par_ex L
  obtain ⟨R, hR⟩ : ∃ P', outR L P zp f = P' := ⟨_, rfl⟩
  obtain ⟨n, hn⟩ : ∃ np, R.length = np := ⟨_, rfl⟩
  obtain ⟨pz, hpz⟩ : ∃ pz, outZ L zp f = pz := ⟨_, rfl⟩
  have hLn : L.length = n2 := by rw [← hL, List.length_map, hl2]
  have hge : pz ≠ -1 → 0 ≤ pz := fun h => by rw [← hpz] at h ⊢; exact outZ_ge h
  have HLL := Lib.hid hL
  have HP := Lib.hid hp
  have HR := Lib.hid hR
  have HN := Lib.hid hn
  have HPZ := Lib.hid hpz
  have HLN := Lib.hid hLn
  have HGE := Lib.hid hge
  clear ht hk hq hA2 hl2 hv2 hL hp hR hn hpz hLn hge
  go_enter Tryz.func4, Tryz.ntmps4
  go_wp2_with fail
  ((with_reducible refine (awm_any _ HTR.out HTK.out HTQ.out).mono ?_))
  rintro e w1 ⟨rfl, hb1⟩
  have HB1 := Lib.hid hb1
  clear hb1
  go_wp2_with fail
  ((with_reducible refine (r1 _ (HA2.out.below HB1.out)).mono ?_))
  rintro e w2 ⟨b, rfl, hfew, rfl⟩
  cases b with
  | false =>
    clear hfew
    go_wp2_with fail
    go_ret
    exact ⟨rfl, HB1.out⟩
  | true =>
    obtain ⟨hn100, hsz⟩ := hfew rfl
    have HSZ := Lib.hid hsz
    clear hfew hsz r1
    have r2 := fun w h h' => kall_any (w := w) (A := A2) (c := c2) HLL.out h h' HL2.out (by omega)
    have r3 := fun w B d h h' => parse_any (w := w) (A := B) (c := d) HP.out HR.out HN.out HPZ.out HLN.out (by omega) h h'
    go_wp2_with fail
    ((with_reducible refine (r2 _ (HTK.out.below HB1.out) (HA2.out.below HB1.out)).mono ?_))
    rintro e w3 ⟨B3, d3, rfl, hb3, hr3, -⟩
    have HB3 := Lib.hid (bel_trans HB1.out hb3)
    have HR3 := Lib.hid hr3
    clear hb3 hr3
    go_wp2_with fail
    ((with_reducible refine (r3 _ _ _ HR3.out (HTR.out.below HB3.out)).mono ?_))
    rintro e w4 ⟨B4, d4, rfl, hb4, hr4, -, hc4⟩
    have HB4 := Lib.hid (bel_trans HB3.out hb4)
    have HR4 := Lib.hid hr4
    clear hb4 hr4 HR3 r2 r3
    by_cases hz1 : pz = -1
    rotate_left
    · have hz2 := HGE.out hz1
      clear hz1
      go_wp2_with fail
      go_ret
      exact ⟨rfl, HB4.out⟩
    subst hz1
    obtain ⟨rfl, hzl⟩ := outZ_yes HPZ.out
    have hR2 := HR.out
    rw [outR_ok hzl] at hR2
    subst hR2
    obtain ⟨X, hf, hd⟩ := par_ful HP.out hzl
    obtain ⟨O, hO⟩ : ∃ O, btF X ts = O := ⟨_, rfl⟩
    obtain ⟨o, ho⟩ : ∃ o, O.isSome = o := ⟨_, rfl⟩
    obtain ⟨bs, hbs⟩ : ∃ bs, O.getD [] = bs := ⟨_, rfl⟩
    obtain ⟨m, hm⟩ : ∃ m, bs.length = m := ⟨_, rfl⟩
    obtain ⟨mX, hmX⟩ : ∃ m, X.length = m := ⟨_, rfl⟩
    obtain ⟨xs, hxs⟩ : ∃ xs, txL bs = xs := ⟨_, rfl⟩
    obtain ⟨mx, hmx⟩ : ∃ m, xs.length = m := ⟨_, rfl⟩
    obtain ⟨y, hy⟩ : ∃ y, mayL bs = y := ⟨_, rfl⟩
    have hpl : (plS X).length = ts.length := by
      have h := hd
      rw [derB, Bool.and_eq_true, Bool.and_eq_true, decide_eq_true_eq] at h
      rw [h.1.2, HLN.out, HL2.out]
    have hsh : allSh ts = o := by rw [← ho, ← hO]; exact (biL_all (ful_bal hf) hpl).symm
    -- what is there if all show
    have hyes : o = true → m = mX ∧ mx = n2 ∧ y = decide (m ≤ 4000) ∧ xs.map some = ts.map shQ := fun e => by
      cases hq : O with
      | none => rw [hq] at ho; rw [← ho] at e; cases e
      | some q =>
        rw [hq] at hO hbs
        have hbq : q = bs := hbs
        subst hbq
        have h1 := btF_len hO
        have h2 := btF_txt hO (ful_bal hf) hpl
        rw [hxs] at h2
        refine ⟨by rw [← hm, h1, hmX], ?_, ?_, h2⟩
        · have := congrArg List.length h2
          rw [List.length_map, List.length_map, HL2.out, hmx] at this
          exact this
        · rw [← hy, mayL, bal_may (Int.le_refl _) (Int.le_refl _) hO (ful_bal hf), hm, Bool.and_true]
    have hno : o = false → m = 0 := fun e => by
      cases hq : O with
      | none =>
        rw [hq] at hbs
        have hb : [] = bs := hbs
        rw [← hm, ← hb]; rfl
      | some q => rw [hq] at ho; rw [← ho] at e; cases e
    have hn5 : n ≤ 2000 ∧ mX ≤ 20001 := by
      have h1 := HP.out.steps
      have h2 := ful_len hf
      rw [hmX] at h2
      have h3 := HLN.out
      have h4 := HN.out
      omega
    have hmm : m ≤ 20001 := by
      cases o with
      | true => have := (hyes rfl).1; omega
      | false => have := hno rfl; omega
    have r5 := fun w h h' h1 h2 h3 => bits_any (w := w) (A := B4) (A2 := A2) (c := d4) (c2 := c2) hf HLL.out hd (show biL true X ts = O from hO) ho hbs hm HN.out hc4 (by omega) h HL2.out hc2 (by omega) (fun t ht => Nat.le_trans (HSZ.out t ht) (by decide)) h' h1 h2 h3
    have r6 := fun w h h' => full_any (w := w) (A := B4) (c := d4) hf hmX HN.out hc4 (by omega) h h'
    have r7 := fun w B d h => mtxt_any (w := w) (A := B) (c := d) hxs hmx h hm (by omega)
    have r8 := fun w B d h => mmay_any (w := w) (A := B) (c := d) hy h hm (by omega)
    have HSH := Lib.hid hsh
    have HYES := Lib.hid hyes
    have HNO := Lib.hid hno
    have HO := Lib.hid ho
    clear hf hd hO ho hbs hm hmX hxs hmx hy hpl hsh hyes hno hzl HP HR HPZ HGE
    go_wp2_with fail
    go_loopw [9, 10] (fun v i wr => ∃ j : Nat, i = .int .i64 j ∧ v = .bool (allSh (ts.take j)) ∧ j ≤ n2 ∧ Below w4.heap.size w4 wr) (fun _ i _ => n2 - (intOf i).toNat)
    case atStart => exact ⟨0, rfl, rfl, Nat.zero_le _, Below.refl _ _⟩
    case round =>
      obtain ⟨j, rfl, rfl, hj, hB⟩ := hrel
      have HB5 := Lib.hid (bel_trans HB4.out hB)
      have HBW := Lib.hid hB
      clear hB
      by_cases hlt : j < n2
      · obtain ⟨t, ht⟩ : ∃ t, ts[j]? = some t := ⟨_, List.getElem?_eq_getElem (by rw [HL2.out]; exact hlt)⟩
        obtain ⟨b, o', rfl, c0, c1, c2', c3⟩ := (HA2.out.below HB5.out) j t ht
        have lb := World.block_lt_of_cell? _ _ c0
        obtain ⟨S, hS⟩ : ∃ S, shV (shQ t) = S := ⟨_, rfl⟩
        obtain ⟨i, hi⟩ : ∃ i, (shQ t).isSome = i := ⟨_, rfl⟩
        have hnx := allSh_take ht
        rw [hi] at hnx
        have hzt := Nat.le_trans (HSZ.out t (List.mem_of_getElem? ht)) (show 600 ≤ 1000000 by decide)
        have r4 := fun w h => msh_any (k := t.k) (v := t.v) (a := t.a) (z := t.z) (w := w) hS hi hzt h
        obtain ⟨sb, hsb⟩ : ∃ sb, allSh (ts.take j) = sb := ⟨_, rfl⟩
        rw [hsb] at hnx ⊢
        have HNX := Lib.hid hnx
        clear ht hS hi hnx hzt hsb r5 r6 r7 r8
        go_wp2_with fail
        ((with_reducible refine (r4 _ (HTQ.out.below HB5.out)).mono ?_))
        rintro e w6 ⟨rfl, hb6⟩
        have HB6 := Lib.hid (bel_trans HBW.out hb6)
        clear hb6 r4
        cases sb with
        | false =>
          go_wp2_with fail
          go_roundw
          case rel => exact ⟨j + 1, by go_num, by rw [HNX.out]; rfl, by omega, HB6.out⟩
          case measure => simp [intOf]; omega
        | true =>
          go_wp2_with fail
          go_roundw
          case rel => exact ⟨j + 1, by go_num, by rw [HNX.out]; rfl, by omega, HB6.out⟩
          case measure => simp [intOf]; omega
      · obtain rfl : j = n2 := by omega
        have hall : allSh (ts.take j) = o := by rw [List.take_of_length_le (by rw [HL2.out]; exact Nat.le_refl _)]; exact HSH.out
        rw [hall]
        have t1 : (o != o) = false := by simp
        have t2 : (o == o) = true := by simp
        clear hall
        go_wp2_with fail
        ((with_reducible refine (r5 _ (HR4.out.below HBW.out) (HA2.out.below HB5.out) (HTR.out.below HB5.out) (HTK.out.below HB5.out) (HTQ.out.below HB5.out)).mono ?_))
        rintro e w6 ⟨B6, d6, rfl, hb6, hs6, -⟩
        have HB6 := Lib.hid (bel_trans HB5.out hb6)
        have HR6 := Lib.hid ((HR4.out.below HBW.out).below hb6)
        have HS6 := Lib.hid hs6
        clear hb6 hs6 r5 HR4 HBW
        go_wp2_with fail
        ((with_reducible refine (r6 _ HR6.out (HTR.out.below HB6.out)).mono ?_))
        rintro e w7 ⟨B7, d7, rfl, hb7, -, -⟩
        have HB7 := Lib.hid (bel_trans HB6.out hb7)
        have HS7 := Lib.hid (HS6.out.below hb7)
        clear hb7 r6 HS6
        go_wp2_with fail
        ((with_reducible refine (r7 _ _ _ HS7.out).mono ?_))
        rintro e w8 ⟨B8, d8, rfl, hb8, hx8, -⟩
        have HB8 := Lib.hid (bel_trans HB7.out hb8)
        have HS8 := Lib.hid (HS7.out.below hb8)
        have HX8 := Lib.hid hx8
        clear hb8 hx8 r7 HS7
        cases o with
        | false =>
          have hm0 := HNO.out rfl
          subst hm0
          clear HYES HNO
          go_wp2_with fail
          go_ret
          exact ⟨by first | rfl | simp, HB8.out⟩
        | true =>
          obtain ⟨e1, e2, e3, e4⟩ := HYES.out rfl
          subst e1
          subst e2
          have HE4 := Lib.hid e4
          have t3 : ((m : Int) != (m : Int)) = false := by simp
          have t4 : ((mx : Int) != (mx : Int)) = false := by simp
          have e5 : (y = true ∧ (m : Int) ≤ 4000) ∨ (y = false ∧ ¬ (m : Int) ≤ 4000) := by
            by_cases h : m ≤ 4000
            · exact .inl ⟨by rw [e3, decide_eq_true h], by omega⟩
            · exact .inr ⟨by rw [e3, decide_eq_false h], by omega⟩
          clear HYES HNO e4 e3
          rcases e5 with ⟨rfl, q40⟩ | ⟨rfl, q40⟩
          all_goals
            go_wp2_with fail
            ((with_reducible refine (r8 _ _ _ HS8.out).mono ?_))
            rintro e w9 ⟨rfl, hb9⟩
            have HB9 := Lib.hid (bel_trans HB8.out hb9)
            have HX9 := Lib.hid (HX8.out.below hb9)
            clear hb9 HS8 HX8 r8
            by_cases hk0 : k < 0
            · go_wp2_with fail
              go_ret
              exact ⟨rfl, HB9.out⟩
            by_cases hkn : (mx : Int) ≤ k
            · go_wp2_with fail
              go_ret
              exact ⟨rfl, HB9.out⟩
            obtain ⟨j, rfl⟩ := Int.eq_ofNat_of_zero_le (show 0 ≤ k by omega)
            have hj : j < mx := by omega
            obtain ⟨t, ht⟩ : ∃ t, ts[j]? = some t := ⟨_, List.getElem?_eq_getElem (by rw [HL2.out]; exact hj)⟩
            obtain ⟨S, hS⟩ : ∃ S, shQ t = some S := by
              have h1 := HSH.out
              rw [allSh, List.all_eq_true] at h1
              exact Option.isSome_iff_exists.1 (h1 t (List.mem_of_getElem? ht))
            have hxj : xs[j]? = some S := by
              have h1 : (xs.map some)[j]? = (ts.map shQ)[j]? := by rw [HE4.out]
              rw [List.getElem?_map, List.getElem?_map, ht, Option.map_some, hS] at h1
              cases h2 : xs[j]? with
              | none => rw [h2] at h1; cases h1
              | some x => rw [h2, Option.map_some] at h1; injection h1 with h1
            obtain ⟨b, o', rfl, c0, c1, c2', c3⟩ := (HA2.out.below HB9.out) j t ht
            have lb := World.block_lt_of_cell? _ _ c0
            obtain ⟨b8, o8, rfl, x0⟩ := HX9.out j S hxj
            have hzt := Nat.le_trans (HSZ.out t (List.mem_of_getElem? ht)) (show 600 ≤ 1000000 by decide)
            have r9 := fun w h => msh_any (k := t.k) (v := t.v) (a := t.a) (z := t.z) (S := S) (is := true) (w := w) (by rw [show shQ ⟨t.k, t.v, t.a, t.z⟩ = some S from hS]; rfl) (by rw [show shQ ⟨t.k, t.v, t.a, t.z⟩ = some S from hS]; rfl) hzt h
            have t6 : (S.toList == S.toList) = true := by simp
            clear ht hS hxj hzt
            go_wp2_with fail
            ((with_reducible refine (r9 _ (HTQ.out.below HB9.out)).mono ?_))
            rintro e w10 ⟨rfl, hb10⟩
            have HB10 := Lib.hid (bel_trans HB9.out hb10)
            have x1 := bel_cell hb10 x0
            have lx := World.block_lt_of_cell? _ _ x1
            clear hb10 r9 x0 c0 c1 c2' c3
            go_wp2_with fail
            go_ret
            exact ⟨by simp, HB10.out⟩
end Go.Proofs.YtpcijjdlppoblaaGreatDoor
